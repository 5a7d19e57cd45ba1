"""Rows of whole numbers: which places they tell of, taken together, and what they leave open."""

from math import gcd, lcm


def cleared(rows, many):
    """Rows of which these are made: {place: row}, 0 at this place in all others; only so many places count."""
    leads = {}
    for row in rows:
        rest = row
        for place in leads:
            rest = without_place(rest, leads[place], place)
        first = first_place(rest, many)
        if first is not None:
            leads = {place: without_place(leads[place], rest, first) for place in leads}
            leads[first] = rest
    return leads


def first_place(row, many):
    """The first of so many places at which the row is not 0; None if there is none."""
    found = [place for place in range(many) if row[place] != 0]
    return found[0] if found else None


def without_place(row, lead, place):
    """The row, with the lead, which is not 0 there, taken from it so often that it is 0 at the place."""
    own, other = row[place], lead[place]
    if own == 0:
        return row
    # Without what all numbers have in common, they stay small.
    return shortened([number * other - part * own for number, part in zip(row, lead)])


def shortened(row):
    """The row without the greatest number that divides all of it."""
    common = 0
    for number in row:
        common = gcd(common, number)
    return row if common < 2 else [number // common for number in row]


def left_open(rows, many):
    """Numbers, one for each of so many places, not all 0, that come to 0 with each of the rows; None if none do."""
    leads = cleared(rows, many)
    free = [place for place in range(many) if place not in leads]
    if not free:
        return None
    scale = 1
    for place in leads:
        scale = lcm(scale, leads[place][place])
    numbers = [0] * many
    numbers[free[0]] = scale
    for place in leads:
        numbers[place] = -leads[place][free[0]] * scale // leads[place][place]
    return numbers


def solved_rows(rows, sums, many):
    """The only whole numbers, one for each of so many places, that can come to these sums with the rows.

    Whether they do must be seen. The rows must leave nothing open.
    """
    leads = cleared([row + [worth] for row, worth in zip(rows, sums)], many)
    return [leads[place][many] // leads[place][place] for place in range(many)]
