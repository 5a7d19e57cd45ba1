"""What ranges.py, wrong.py and corners.py rest on: numbers that go round, compared with all numbers, all rings."""

import itertools
import random
import unittest
from fractions import Fraction

from runsbehind import rounds

GREAT = 10 ** 30


def some_arcs(seed):
    """Arcs between a few places, some twice, some back to where they begin, with bounds and costs."""
    chance = random.Random(seed)
    names = "abcde"[:chance.randint(2, 5)]
    arcs = []
    for _ in range(chance.randint(1, 7)):
        low = chance.choice((0, 0, 0, 1))
        arcs.append((chance.choice(names), chance.choice(names), low, low + chance.randint(0, 2)))
    return arcs, [chance.randint(-2, 2) for _ in arcs]


def goes_round(arcs, numbers):
    places = {place for arc in arcs for place in arc[:2]}
    return all(sum(number for arc, number in zip(arcs, numbers) if arc[0] == place)
               == sum(number for arc, number in zip(arcs, numbers) if arc[1] == place) for place in places)


def all_round(arcs):
    return [numbers for numbers in itertools.product(*[range(low, high + 1) for _, _, low, high in arcs])
            if goes_round(arcs, numbers)]


def all_rings(moves):
    """All rings of pushes that come to no place twice."""
    found, growing = [], [[push] for push in moves]
    while growing:
        way = growing.pop()
        if way[-1][1] == way[0][0]:
            found.append(way)
            continue
        growing += [way + [push] for push in moves if push[0] == way[-1][1]
                    and push[1] not in [other[1] for other in way]]
    return found


class Rounds(unittest.TestCase):
    def test_settled(self):
        for seed in range(300):
            arcs, _ = some_arcs(seed)
            found = all_round(arcs)
            for pick in (2, 3):
                numbers, stuck = rounds.settled(arcs, [arc[pick] for arc in arcs])
                self.assertEqual(stuck == [], found != [])
                if found:
                    self.assertIn(numbers, found)

    def test_cheapest(self):
        for seed in range(300):
            arcs, costs = some_arcs(seed)
            found = all_round(arcs)
            if found:
                sums = [rounds.weighted(numbers, costs) for numbers in found]
                self.assertIn(rounds.cheapest(arcs, found[0], costs), found)
                self.assertEqual(rounds.weighted(rounds.cheapest(arcs, found[-1], costs), costs), min(sums))
                self.assertEqual(rounds.sum_span(arcs, found[0], costs), (min(sums), max(sums)))

    def test_least_ring(self):
        for seed in range(300):
            arcs, costs = some_arcs(seed)
            for numbers in all_round(arcs)[:5]:
                moves = rounds.pushes(arcs, numbers)
                means = [self.mean(ring, costs) for ring in all_rings(moves)]
                ring = rounds.least_ring(moves, costs)
                if min(means, default=0) < 0:
                    self.assertEqual(self.mean(ring, costs), min(means))
                    self.check_ring(ring)
                else:
                    self.assertEqual(ring, [])

    def mean(self, ring, costs):
        return Fraction(sum(sign * costs[at] for _, _, _, at, sign in ring), len(ring))

    def check_ring(self, ring):
        """Whether each push ends where the one behind it in the list begins, or all of them the other way about."""
        ways = (ring, ring[::-1])
        self.assertTrue(any(all(way[at - 1][1] == push[0] for at, push in enumerate(way)) for way in ways))
        self.assertEqual(len({push[0] for push in ring}), len(ring))

    def test_great_numbers_take_few_rings(self):
        # Round by round of small rooms this would never end.
        arcs = [("a", "b", 0, GREAT), ("b", "c", 0, GREAT), ("c", "a", 0, GREAT), ("b", "a", 0, 1), ("c", "b", 0, GREAT),
                ("a", "c", 0, GREAT - 1), ("a", "a", 0, GREAT)]
        costs = [-1, 1, -1, 0, -1, 1, -1]
        found = rounds.cheapest(arcs, (0,) * 7, costs)
        self.assertTrue(goes_round(arcs, found))
        self.assertEqual(rounds.least_ring(rounds.pushes(arcs, found), costs), [])
        self.assertEqual(rounds.weighted(found, costs), -2 * GREAT)


if __name__ == "__main__":
    unittest.main()
