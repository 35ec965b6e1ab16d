"""The search for least costs by itself, in graphs that are told here."""

import random
import unittest

from hookvows.masks import image, mask_of, numbers_in, spread
from hookvows.search import Search


class Told:
    """A graph: for each node its moves; ends are the nodes whose names begin with e."""

    def __init__(self, **moves):
        self.told = moves

    def is_end(self, node):
        return node[0] == "e"

    def moves(self, node):
        return self.told.get(node, [])

    def behind(self, key, end):
        return key + end


class TestSearch(unittest.TestCase):
    def test_the_cheaper_way(self):
        search = Search(Told(a=[(5, "far", None, "e"), (1, "near", None, "b")], b=[(3, "on", None, "e")]))
        self.assertEqual(search.least_cost("a", "e"), 4)
        self.assertEqual(search.steps_to("a", "e"), [("a", "near", None, None, "b"), ("b", "on", None, None, "e")])
        self.assertIsNone(search.least_cost("b", "a"))
        self.assertEqual(search.least_cost("a", "a"), 0)
        self.assertEqual(search.steps_to("a", "a"), [])

    def test_what_goes_by_way_of_another_search(self):
        graph = Told(a=[(1, "in", "b", "x")], b=[(2, "one", None, "e1"), (4, "two", None, "e2")], xe1=[(9, "last", None, "e")],
                     xe2=[(1, "last", None, "e")])
        search = Search(graph)
        # By the end e1, which is reached first, it costs 12, by e2 6.
        self.assertEqual(search.least_cost("a", "e"), 6)
        self.assertEqual(search.steps_to("a", "e"), [("a", "in", "b", "e2", "xe2"), ("xe2", "last", None, None, "e")])
        self.assertEqual(search.least_cost("b", "e1"), 2)

    def test_a_search_within_itself(self):
        # One more turn within costs one more, and leads on; without any, a ends in e.
        graph = Told(a=[(1, "turn", "a", "x"), (0, "stop", None, "e")], xe=[(0, "out", None, "ee")], xee=[(0, "out", None, "eee")])
        search = Search(graph)
        self.assertEqual([search.least_cost("a", end) for end in ["e", "ee", "eee", "eeee"]], [0, 1, 2, None])

    def test_a_search_that_begins_late(self):
        # What is within begins to be looked at only when a cost of seven is reached.
        graph = Told(a=[(7, "", None, "b"), (9, "", None, "e")], b=[(0, "", "c", "y")], c=[(1, "", None, "e1"), (0, "", "d", "z")],
                     d=[(0, "", None, "e2")], ye1=[(0, "", None, "e")], ze2=[(0, "", None, "e1")])
        self.assertEqual(Search(graph).least_cost("a", "e"), 7)

    def test_against_plain_rounds(self):
        for seed in range(300):
            random_one = random.Random(seed)
            names = ["a", "b", "c", "d", "e1", "e2"]
            inner = names + [name + end for name in "abcd" for end in ["e1", "e2"]]
            told = {}
            for name in inner:
                if name[0] != "e":
                    told[name] = [
                        (random_one.randint(0, 3), "", random_one.choice([None, None, "a", "b", "c"]), random_one.choice(inner))
                        for _ in range(random_one.randint(0, 3))
                    ]
            # Behind an end a move leads to a name that is there.
            told = {name: [
                (price, act, start, key if start is None else key[0] if key[0] in "abcd" else "a")
                for price, act, start, key in moves
            ] for name, moves in told.items()}
            costs = self.rounds(told)
            for start in "abcd":
                search = Search(Told(**told))
                for end in ["e1", "e2"]:
                    self.assertEqual(search.least_cost(start, end), costs.get((start, end)))

    def rounds(self, told):
        """The least cost from each name to each end, by plain rounds."""
        costs, before = {}, None
        while costs != before:
            before = dict(costs)
            for start in told:
                here = {start: 0}
                for _ in range(30):
                    for node, cost in list(here.items()):
                        for price, _, within, key in told.get(node, []):
                            found = [(key, price)]
                            if within is not None:
                                found = [(key + end, price + costs[within, end]) for end in ["e1", "e2"] if (within, end) in costs]
                            for name, more in found:
                                here[name] = min(here.get(name, cost + more), cost + more)
                for end in ["e1", "e2"]:
                    if end in here:
                        costs[start, end] = here[end]
        return costs


class TestMasks(unittest.TestCase):
    def test_numbers(self):
        for numbers in [[], [0], [3], [0, 1, 5], [2, 60, 335]]:
            self.assertEqual(numbers_in(mask_of(numbers)), numbers)

    def test_spread(self):
        following = [mask_of([1]), mask_of([2, 3]), 0, mask_of([1]), mask_of([0])]
        self.assertEqual(numbers_in(spread(following, mask_of([0]))), [0, 1, 2, 3])
        self.assertEqual(numbers_in(spread(following, mask_of([2]))), [2])
        self.assertEqual(numbers_in(spread(following, mask_of([2, 4]))), [0, 1, 2, 3, 4])
        self.assertEqual(spread(following, 0), 0)

    def test_image(self):
        pairs = [(mask_of([1]), 0), (mask_of([0, 1]), mask_of([1]))]
        self.assertEqual([numbers_in(mask) for mask in image(pairs, mask_of([0]), 2)], [[1], []])
        self.assertEqual([numbers_in(mask) for mask in image(pairs, mask_of([0, 3]), 2)], [[1, 2, 3], [3]])
        self.assertEqual(image(pairs, 0, 2), (0, 0))
