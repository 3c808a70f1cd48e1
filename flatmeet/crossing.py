"""Meets by boxes."""

from flatmeet.hooks import turned_over
from flatmeet.sums import product, taken


# Turning over twice exchanges all places with all lacking ones, neighbour by neighbour.
def turned_under(many, some):
    told = turned_over(many, some)
    if not some:
        return told
    size = len(some[0][0])
    return taken(told, 1 - 2 * (size * (many - size) % 2))


def crossed(many, one, other):
    return turned_under(many, product(turned_over(many, one), turned_over(many, other)))
