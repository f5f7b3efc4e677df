"""Walks along links: a dict has for each place a list of pairs (label, place that it leads to)."""


def shortest_walk(links, begin, end):
    """The steps (place, label) of a shortest walk of one step or more from begin to end; [] where there is none."""
    walks = {begin: []}
    queue = [begin]
    at = 0
    while at < len(queue):
        place = queue[at]
        for label, following in links[place]:
            if following == end:
                return [*walks[place], (place, label)]
            if following not in walks:
                walks[following] = [*walks[place], (place, label)]
                queue.append(following)
        at += 1
    return []
