"""Answers about graphs, compared with a search that is made for it: points 16, 27 and 28."""

import itertools
import random
import unittest

import papers
from stablepapers.answers import answer, check_answer
from stablepapers.parsing import parse
from stablepapers.programs import ground

COLOURS = ("blue", "green", "red")
# The colours are names of predicates: if they were constants, there would be more atoms, as edge(X, Y) has an instance
# for each pair of constants.
COLOURING = """1 {red(X); green(X); blue(X)} 1 :- node(X). :- edge(X, Y), red(X), red(Y).
:- edge(X, Y), green(X), green(Y). :- edge(X, Y), blue(X), blue(Y). """
REACHING = "reach(X) :- start(X). reach(Y) :- reach(X), edge(X, Y). "
PATHS = REACHING + "edge(X, Y) :- road(X, Y), not closed(X, Y). {closed(X, Y)} :- road(X, Y). "
COVERING = "{in(X)} :- node(X). :- edge(X, Y), not in(X), not in(Y). minimize {1 : in(X)}. "


def written(name, *tuples):
    return " ".join(f"{name}({', '.join(map(str, one))})." for one in tuples)


def random_graph(chooser, many, chance):
    return [pair for pair in itertools.combinations(range(1, many + 1), 2) if chooser.random() < chance]


def colourings(many, edges):
    """Return all colourings of a graph as sets of pairs of a node and a colour."""
    found = []
    for colours in itertools.product(COLOURS, repeat=many):
        if all(colours[one - 1] != colours[two - 1] for one, two in edges):
            found.append({(number + 1, colour) for number, colour in enumerate(colours)})
    return found


def reachable(edges, start):
    found = {start}
    waiting = [start]
    while waiting:
        here = waiting.pop()
        for one, two in edges:
            if one == here and two not in found:
                found.add(two)
                waiting.append(two)
    return found


class GraphCase(unittest.TestCase):
    def answer(self, text, query):
        given = answer(text, query)
        self.assertIs(check_answer(text, query, given), True)
        self.assertEqual(answer(text, query), given)
        return given

    def values(self, atoms, name):
        return {values if len(values) > 1 else values[0] for found, values in atoms if found == name}


class Colourings(GraphCase):
    def text(self, many, edges):
        nodes = written("node", *[(number,) for number in range(1, many + 1)])
        return COLOURING + nodes + " " + written("edge", *edges)

    def colours(self, atoms):
        """Return a set of pairs of a node and its colour."""
        return {(values[0], name) for name, values in atoms if name in COLOURS}

    def assert_colourings(self, many, edges):
        text = self.text(many, edges)
        expected = colourings(many, edges)
        given = self.answer(text, ("model",))
        self.assertEqual(given[0], "model" if expected else "none")
        if expected:
            self.assertIn(self.colours(given[1]), expected)
        given = self.answer(text, ("all", 64))
        self.assertEqual(given[0], "all" if len(expected) <= 64 else "more")
        found = [self.colours(one) for one in given[1]]
        self.assertEqual(len(found), min(len(expected), 65))
        for place, one in enumerate(found):
            self.assertIn(one, expected)
            self.assertNotIn(one, found[:place])
        return len(expected)

    def test_complete_graphs(self):
        for many, expected in ((1, 3), (2, 6), (3, 6), (4, 0), (5, 0)):
            edges = list(itertools.combinations(range(1, many + 1), 2))
            self.assertEqual(self.assert_colourings(many, edges), expected)

    def test_circles(self):
        for many in (4, 5, 6):
            edges = [(number, number % many + 1) for number in range(1, many + 1)]
            self.assertEqual(self.assert_colourings(many, edges), 2 ** many + 2 * (-1) ** many)

    def test_drawn_graphs(self):
        chooser = random.Random(91)
        numbers = [self.assert_colourings(many, random_graph(chooser, many, 0.7)) for many in (4, 5, 6) * 4]
        self.assertIn(0, numbers)
        self.assertGreater(max(numbers), 6)

    def test_a_colour_that_a_node_must_have(self):
        text = self.text(4, [(1, 2), (1, 3), (2, 3), (2, 4), (3, 4)]) + " red(1)."
        for colour in COLOURS:
            expected = "yes" if colour == "red" else "no"
            self.assertEqual(self.answer(text, ("certain", (colour, (4,))))[0], expected)
            expected = "no" if colour == "red" else "yes"
            self.assertEqual(self.answer(text, ("impossible", (colour, (4,))))[0], expected)

    def test_the_cheapest_colouring(self):
        chooser = random.Random(92)
        for _ in range(8):
            edges = random_graph(chooser, 5, 0.6)
            prices = {colour: chooser.randint(0, 9) for colour in COLOURS}
            minimize = "; ".join(f"{price} : {colour}(X)" for colour, price in prices.items())
            given = self.answer(self.text(5, edges) + f" minimize {{{minimize}}}.", ("best",))
            costs = [sum(prices[colour] for _, colour in one) for one in colourings(5, edges)]
            if costs:
                self.assertEqual(given[:2], ("best", min(costs)))
                self.assertEqual(sum(prices[colour] for _, colour in self.colours(given[2])), min(costs))
            else:
                self.assertEqual(given[0], "none")

    def test_a_graph_without_a_colouring_has_a_small_paper(self):
        edges = [(number, number % 7 + 1) for number in range(1, 8)] + [(8, number) for number in range(1, 8)]
        given = self.answer(self.text(8, edges), ("model",))
        self.assertEqual(given[0], "none")
        self.assertLess(len(papers.all_nodes(given[1])), 200)


class ReachableNodes(GraphCase):
    def assert_reachable(self, many, edges, start):
        text = REACHING + written("start", (start,)) + " " + written("edge", *edges)
        expected = reachable(edges, start)
        kind, atoms, _ = self.answer(text, ("model",))
        self.assertEqual((kind, self.values(atoms, "reach")), ("model", expected))
        self.assertEqual(self.answer(text, ("all", 1))[1], [atoms])
        for number in range(1, many + 1):
            certain = self.answer(text, ("certain", ("reach", (number,))))
            impossible = self.answer(text, ("impossible", ("reach", (number,))))
            kinds = ("yes", "no") if number in expected else ("no", "yes")
            self.assertEqual((certain[0], impossible[0]), kinds)

    def test_drawn_graphs(self):
        chooser = random.Random(93)
        for _ in range(20):
            many = chooser.randint(2, 8)
            edges = random_graph(chooser, many, 0.2) + [pair[::-1] for pair in random_graph(chooser, many, 0.2)]
            self.assert_reachable(many, edges, chooser.randint(1, many))

    def test_a_circle_that_is_not_reached(self):
        self.assert_reachable(6, [(1, 2), (2, 1), (3, 4), (4, 5), (5, 3), (5, 1), (3, 6)], 1)

    def test_a_long_way(self):
        text = "reach(0). reach(X) :- reach(Y), X = Y + 1. range 0 90."
        expected = reachable([(number, number + 1) for number in range(90)], 0)
        kind, atoms, _ = self.answer(text, ("model",))
        self.assertEqual((kind, self.values(atoms, "reach")), ("model", expected))
        self.assertEqual(self.answer(text, ("certain", ("reach", (90,))))[0], "yes")
        self.assertEqual(self.answer(text, ("impossible", ("reach", (90,))))[0], "no")

    def test_roads_that_may_be_closed(self):
        chooser = random.Random(94)
        for _ in range(6):
            roads = random_graph(chooser, 4, 0.7)
            text = PATHS + "start(1). " + written("road", *roads)
            prices = {road: chooser.randint(1, 9) for road in roads}
            weights = "; ".join(f"{price} : closed({one}, {two})" for (one, two), price in prices.items())
            if not weights:
                continue
            # What it costs to close roads so that 4 cannot be reached.
            costs = []
            for closed in itertools.product([True, False], repeat=len(roads)):
                shut = [road for road, one in zip(roads, closed, strict=True) if one]
                if 4 not in reachable([road for road in roads if road not in shut], 1):
                    costs.append(sum(prices[road] for road in shut))
            given = self.answer(text + f" :- reach(4). minimize {{{weights}}}.", ("best",))
            self.assertEqual(given[:2], ("best", min(costs)))


class Covers(GraphCase):
    def test_the_smallest_cover(self):
        chooser = random.Random(95)
        for many in (4, 6, 8, 10):
            edges = random_graph(chooser, many, 0.4) or [(1, 2)]
            text = COVERING + written("node", *[(one,) for one in range(1, many + 1)]) + " " + written("edge", *edges)
            sizes = [
                size for size in range(many + 1) for one in itertools.combinations(range(1, many + 1), size)
                if all(first in one or second in one for first, second in edges)
            ]
            given = self.answer(text, ("best",))
            self.assertEqual(given[:2], ("best", min(sizes)))
            found = self.values(given[2], "in")
            self.assertEqual(len(found), min(sizes))
            self.assertTrue(all(first in found or second in found for first, second in edges))

    def test_the_program_of_the_text_is_the_one_that_is_searched(self):
        text = COVERING + "node(1). node(2). edge(1, 2)."
        program = ground(parse(text))
        kind, cost, atoms, paper = self.answer(text, ("best",))
        self.assertEqual((kind, cost), ("best", 1))
        self.assertTrue(papers.best_right(program, paper))
        self.assertTrue(papers.states(program, atoms, paper[0]))


if __name__ == "__main__":
    unittest.main()
