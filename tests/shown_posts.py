"""All that is told of a post, to be compared."""

from refusals import refused


def shown(post):
    houses = range(len(post.stand()))
    heard = [((house, other), refused(post.heard, house, other)) for house in houses for other in houses]
    heard = [row for row in heard if row[1] != "NoRoad"]
    return (post.stand(), post.waiting(), heard, post.broken(), post.likes(), len(post))
