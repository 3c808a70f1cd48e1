"""Equations, answered with fractions of one bottom or barred."""

from flatmeet.flats import flat_of
from flatmeet.steps import check_alike, check_rows, cleared, common_divisor, lowest, square_rows, units


# Behind its row each equation carries its end and a mark, so that each cleared line tells how often it took which.
def cleared_equations(many, rows, ends):
    check_rows(many, rows)
    check_alike(rows, ends)
    return cleared(many, [row + [end] + mark for row, end, mark in zip(rows, ends, units(len(rows)))])


# The cleared lines whose rows are nothing, but not their ends.
def barred_lines(many, found):
    return [line for line in found.lines[len(found.heads):] if line[many] != 0]


def answer(many, rows, ends):
    found = cleared_equations(many, rows, ends)
    if barred_lines(many, found):
        return None
    tops = [0] * many
    for head, line in zip(found.heads, found.lines):
        tops[head] = line[many]
    return lowest(found.bottom, tops)


def bar(many, rows, ends):
    found = cleared_equations(many, rows, ends)
    barred = barred_lines(many, found)
    if not barred:
        return None
    often = barred[0][many + 1:]
    common = common_divisor(often)
    return [number // common for number in often]


def idle(many, rows):
    check_rows(many, rows)
    return flat_of(many, square_rows(many, rows))
