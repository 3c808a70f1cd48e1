"""Rows of whole numbers: sums, differences, multiples and how they weigh."""

from flatmeet.steps import pairs


def plus(one, other):
    return [left + right for left, right in pairs(one, other)]


def less(one, other):
    return [left - right for left, right in pairs(one, other)]


def times(row, many):
    return [number * many for number in row]


def weighed(one, other):
    return sum([left * right for left, right in pairs(one, other)])
