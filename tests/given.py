"""What the tests share: numbers to ask with, and reckonings that owe nothing to the program."""

import itertools
from fractions import Fraction
from math import gcd

NINES = 10 ** 60 - 1
RISING = 123456789012345678901234567890123456789012345678901234567890
WAYS = (1, 2, 3, 4, 5)
BAD_COUNTS = (0, 6, -1, -5, 7, NINES, -NINES)


class Numbers:
    """The same numbers at each run."""

    def __init__(self, seed):
        self.state = seed * 2654435761 + 1

    def draw(self):
        self.state = (self.state * 6364136223846793005 + 1442695040888963407) % 2 ** 64
        return self.state >> 33

    def number(self, low, high):
        drawn = 0
        span = high - low + 1
        scale = 1
        while scale < span * 1024:
            drawn = drawn * 2 ** 31 + self.draw()
            scale *= 2 ** 31
        return low + drawn % span

    def row(self, many, bound):
        return [self.number(-bound, bound) for _ in range(many)]

    def rows(self, many, count, bound):
        return [self.row(many, bound) for _ in range(count)]

    def hanging(self, many, count, bound):
        """Rows of which all but the first few hang on those: sums of them, one of them again, noughts."""
        rows = self.rows(many, min(count, self.number(0, many)), bound)
        while len(rows) < count:
            kind = self.number(0, 3)
            if not rows or kind == 0:
                rows.append([0] * many)
            elif kind == 1:
                rows.insert(self.number(0, len(rows)), list(rows[self.number(0, len(rows) - 1)]))
            else:
                often = [self.number(-2, 2) for _ in rows]
                rows.insert(self.number(0, len(rows)), mix(many, often, rows))
        return rows

    def sum(self, many, size, bound):
        terms = [(places, self.number(-bound, bound)) for places in all_places(many, size)]
        return [term for term in terms if term[1] != 0]


def mix(many, often, rows):
    """The sum of the rows, each taken so often."""
    return [sum(count * row[way] for count, row in zip(often, rows)) for way in range(many)]


def weigh(one, other):
    return sum(left * right for left, right in zip(one, other))


def rank(rows):
    rows = [[Fraction(number) for number in row] for row in rows]
    found = 0
    for way in range(len(rows[0]) if rows else 0):
        head = next((place for place in range(found, len(rows)) if rows[place][way]), None)
        if head is None:
            continue
        rows[found], rows[head] = rows[head], rows[found]
        for place in range(found + 1, len(rows)):
            part = rows[place][way] / rows[found][way]
            rows[place] = [left - part * right for left, right in zip(rows[place], rows[found])]
        found += 1
    return found


def in_flat(rows, row):
    return rank(rows + [row]) == rank(rows)


def sign(numbers):
    """1 or -1 by the cycles of an ordering, 0 where a number comes twice."""
    if len(set(numbers)) < len(numbers):
        return 0
    order = sorted(range(len(numbers)), key=lambda place: numbers[place])
    seen, cycles = set(), 0
    for start in range(len(order)):
        if start not in seen:
            cycles += 1
            while start not in seen:
                seen.add(start)
                start = order[start]
    return (-1) ** (len(order) - cycles)


def det(table):
    """By all orderings: one product each."""
    total = 0
    for order in itertools.permutations(range(len(table))):
        part = sign(order)
        for line, place in enumerate(order):
            part *= table[line][place]
        total += part
    return total


def all_places(many, size):
    return list(itertools.combinations(range(many), size))


def minors(many, rows):
    """The sum that box_of is to tell, from determinants."""
    told = [(places, det([[row[way] for way in places] for row in rows])) for places in all_places(many, len(rows))]
    return [term for term in told if term[1] != 0]


def gathered(terms):
    """Point 10's sum of terms: a list in order, like places put together."""
    numbers = {}
    for places, number in terms:
        key = tuple(sorted(places))
        numbers[key] = numbers.get(key, 0) + sign(places) * number
    return sorted((key, number) for key, number in numbers.items() if number)


def multiplied(one, other):
    return gathered([(front + back, left * right) for front, left in one for back, right in other])


def divisor(numbers):
    return gcd(*numbers)


def small_rows(many, bound):
    return [list(row) for row in itertools.product(range(-bound, bound + 1), repeat=many)]


def sum_kinds(case, told):
    """A list of tuples of a tuple and a whole number, in the form of point 10."""
    case.assertIs(type(told), list)
    for term in told:
        case.assertIs(type(term), tuple)
        case.assertEqual([type(part) for part in term], [tuple, int])
        case.assertEqual(list(term[0]), sorted(set(term[0])))
        case.assertNotEqual(term[1], 0)
    case.assertEqual([term[0] for term in told], sorted({term[0] for term in told}))


def row_kinds(case, told, many):
    """A list of rows of many whole numbers each."""
    case.assertIs(type(told), list)
    for row in told:
        case.assertIs(type(row), list)
        case.assertEqual(len(row), many)
        case.assertEqual({type(number) for number in row}, {int})
