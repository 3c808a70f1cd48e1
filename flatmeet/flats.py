"""Flats through the point of noughts, each told by the one frame that stands for it."""

from flatmeet.rows import less, times, weighed
from flatmeet.steps import bezout, check_row, check_rows, cleared, lowest, makers, mixed, square_rows, units


class Flat:

    def __init__(self, many, rows):
        self.many = many
        self.rows = rows


# Of shares in a triangle (the share at place k has 0 at each place before k) those sums, in a triangle too, that
# weigh a multiple of whole. The maker is a sum of the shares behind the one at hand; it weighs, but for multiples of
# whole, the least that any such sum weighs.
def narrowed(shares, weights, whole):
    told = []
    least = whole
    maker = [0] * len(weights)
    for share in reversed(shares):
        weight = weighed(share, weights) % whole
        found = bezout(weight, least)
        common = found[0]
        told = [less(times(share, least // common), times(maker, weight // common))] + told
        maker = mixed(len(weights), found[1:], [share, maker])
        least = common
    return told


# Brings each number that stands above another share's first one to 0 or more and less than that.
def tidied(shares):
    told = list(shares)
    for place in range(len(shares) - 1, -1, -1):
        for way in range(place + 1, len(shares)):
            often = told[place][way] // told[way][way]
            told[place] = less(told[place], times(told[way], often))
    return told


# Each row of the flat is a sum of the cleared lines, taken by shares, parted by the bottom. The shares are the row's
# numbers at the heads, so those of the frame are in a triangle and tidy just where the frame is. A row is whole just
# where the bottom parts the sum at each way that has no head.
def frame_of_cleared(many, found):
    lines = [line[:many] for line in found.lines[:len(found.heads)]]
    shares = units(len(lines))
    for way in range(many):
        if way not in found.heads:
            shares = tidied(narrowed(shares, [line[way] for line in lines], found.bottom))
    return [[number // found.bottom for number in mixed(many, share, lines)] for share in shares]


def frame_of(many, rows):
    return frame_of_cleared(many, cleared(many, rows))


def flat_of(many, rows):
    check_rows(many, rows)
    return Flat(many, frame_of(many, rows))


def paper(many, rows):
    check_rows(many, rows)
    marked = [row + mark for row, mark in zip(rows, units(len(rows)))]
    found = cleared(many, marked)
    # The marks tell how often each row handed in was taken for a line.
    marks = [line[many:] for line in found.lines[:len(found.heads)]]
    told = []
    for row in frame_of_cleared(many, found):
        often = mixed(len(rows), [row[head] for head in found.heads], marks)
        told.append(lowest(found.bottom, often))
    return told


# Any whole row that weighs 1 with the frame's row and 0 with the others is a sum of those in standing, so their
# weights have no common divisor above 1.
def mirror(flat):
    told = []
    for place, row in enumerate(flat.rows):
        others = flat.rows[:place] + flat.rows[place + 1:]
        standing = frame_of(flat.many, square_rows(flat.many, others))
        often = makers([weighed(row, other) for other in standing])
        told.append(mixed(flat.many, often, standing))
    return told


def head_of(row):
    return [way for way in range(len(row)) if row[way] != 0][0]


def parts(flat, row):
    check_row(flat.many, row)
    told = []
    rest = row
    for line in flat.rows:
        head = head_of(line)
        often = rest[head] // line[head]
        rest = less(rest, times(line, often))
        told.append(often)
    # What a head couldn't take in full stays there, as all later lines have 0 at it.
    if any([number != 0 for number in rest]):
        return None
    return told
