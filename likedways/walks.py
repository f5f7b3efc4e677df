"""Walks along links: a dict has for each place a list of pairs (label, place that it leads to)."""


def shortest_walk(links, begin, end):
    """The steps (place, label) of a shortest walk of one step or more from begin to end; [] where there is none."""
    walks = {begin: []}
    queue = [begin]
    at = 0
    while at < len(queue):
        place = queue[at]
        for label, following in links[place]:
            if following == end:
                return [*walks[place], (place, label)]
            if following not in walks:
                walks[following] = [*walks[place], (place, label)]
                queue.append(following)
        at += 1
    return []


def late_first(links, begin, seen):
    """The unseen places that walks from begin come to, each behind those it leads to without a way back."""
    # Each place waits on the stack until all that it leads to is done; marks in seen keep walks off other groups.
    places = []
    stack = [(begin, False)]
    while stack:
        place, is_done = stack.pop()
        if is_done:
            places.append(place)
        elif place not in seen:
            seen[place] = True
            stack.append((place, True))
            stack.extend([(following, False) for label, following in links[place] if following not in seen])
    return places


def turned(links):
    """The links, each leading back."""
    back = {place: [] for place in links}
    for place in links:
        for label, following in links[place]:
            back[following].append((label, place))
    return back


def groups(links, begin):
    """The places that lead to one another together, each group behind all others that it leads to."""
    # Kosaraju's way: from the place that was done last, walks back stay in its group or come to groups found already.
    back = turned(links)
    seen = {}
    found = []
    for place in reversed(late_first(links, begin, {})):
        if place not in seen:
            found.append(late_first(back, place, seen))
    return found[::-1]
