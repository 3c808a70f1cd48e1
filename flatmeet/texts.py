"""Rows and sums written as texts."""


def row_text(row):
    return "(" + ",".join([str(number) for number in row]) + ")"


def rows_text(rows):
    if not rows:
        return "nothing"
    return " ".join([row_text(row) for row in rows])


# The term without its sign.
def term_text(places, number):
    figures = "" if abs(number) == 1 and places else str(abs(number))
    return figures + "e" + "".join([str(place) for place in places])


def sum_text(some):
    if not some:
        return "0"
    told = ""
    for places, number in some:
        if told:
            told += " - " if number < 0 else " + "
        elif number < 0:
            told += "-"
        told += term_text(places, number)
    return told
