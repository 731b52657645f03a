import copy
import itertools
import random
import unittest

from lendback.search import shortest


def least(start, edges, wanted):
    """How many nodes the shortest list has, found by going on from all nodes at once; None, if there is none."""
    rows, seen, count = set(start), set(), 1
    while rows:
        if rows & wanted:
            return count
        seen |= rows
        rows = {other for node in rows for other in edges.get(node, [])} - seen
        count += 1
    return None


class Shortest(unittest.TestCase):
    def search(self, start, edges, wanted):
        return shortest(start, lambda node: edges.get(node, []), lambda node: node in wanted)

    def test_a_chain(self):
        edges = {0: [1], 1: [2], 2: [3]}
        self.assertEqual(self.search([0], edges, {3}), [0, 1, 2, 3])
        self.assertEqual(self.search([0, 2], edges, {3}), [2, 3])
        self.assertEqual(self.search([2, 0], edges, {3}), [2, 3])

    def test_a_start_node_that_is_wanted(self):
        self.assertEqual(self.search([0], {0: [0, 1]}, {0}), [0])
        self.assertEqual(self.search([1, 0], {1: [0]}, {0}), [0])
        self.assertEqual(self.search([0, 1, 2], {0: [1, 2]}, {2}), [2])

    def test_no_start_node_and_no_way(self):
        self.assertIsNone(self.search([], {0: [1]}, {0, 1}))
        self.assertIsNone(self.search([0], {0: [1], 1: [0], 2: [3]}, {3}))
        self.assertIsNone(self.search([0], {}, set()))

    def test_nodes_that_follow_themselves_and_circles(self):
        edges = {0: [0, 1], 1: [1, 0, 2], 2: [2, 1, 0, 3], 3: []}
        self.assertEqual(self.search([0], edges, {3}), [0, 1, 2, 3])
        self.assertIsNone(self.search([0], edges, {4}))

    def test_nodes_that_are_given_several_times(self):
        edges = {0: [1, 1, 2, 1], 1: [2, 2], 2: [3, 3]}
        self.assertEqual(self.search([0, 0, 0], edges, {3}), [0, 2, 3])
        self.assertEqual(self.search([1, 0, 1], edges, {1}), [1])

    def test_all_kinds_of_nodes(self):
        nodes = [None, "", "a", 0, -1, (), (None,), ("a", 0), (0, ("loan", ("x", (0, "?")), 4, "alive")), (0, None)]
        edges = {node: [other] for node, other in zip(nodes, nodes[1:])}
        self.assertEqual(self.search([None], edges, {nodes[-1]}), nodes)
        for node in nodes:
            self.assertEqual(self.search([node], edges, {node}), [node])
        self.assertEqual(self.search([None], {None: [None, "x"]}, {"x"}), [None, "x"])

    def test_equal_nodes_are_one_node(self):
        def following(node):
            # New tuples each time, which are equal to earlier ones.
            return [tuple([(part + 1) % 5 for part in node]), tuple(list(node))]
        found = shortest([tuple([0, 1])], following, lambda node: node == (3, 4))
        self.assertEqual(found, [(0, 1), (1, 2), (2, 3), (3, 4)])
        self.assertIsNone(shortest([(0, 1)], following, lambda node: node == (3, 3)))

    def test_the_shorter_of_two_ways(self):
        edges = {"s": ["a", "x"], "a": ["b"], "b": ["end"], "x": ["end"]}
        self.assertEqual(self.search(["s"], edges, {"end"}), ["s", "x", "end"])
        edges = {"s": ["a", "b"], "a": ["c"], "b": ["end"], "c": ["end"]}
        self.assertEqual(self.search(["s"], edges, {"end"}), ["s", "b", "end"])

    def test_a_long_way(self):
        found = shortest([0], lambda node: [node + 1, max(node - 1, 0)], lambda node: node == 5000)
        self.assertEqual(found, list(range(5001)))

    def test_nothing_is_changed_and_all_is_said_again(self):
        start, edges = [2, 0, 2], {0: [1, 1], 1: [3], 2: [2, 0]}
        before = copy.deepcopy((start, edges))
        self.assertEqual(self.search(start, edges, {3}), [0, 1, 3])
        self.assertEqual(self.search(start, edges, {3}), [0, 1, 3])
        self.assertEqual((start, edges), before)

    def test_random_graphs(self):
        lengths = {}
        for seed in range(3000):
            chance = random.Random(seed)
            nodes = chance.sample(list(itertools.product(range(3), (None, "a", 1))), chance.choice((1, 3, 9, 9)))
            edges = {node: [chance.choice(nodes) for _ in range(chance.choice((0, 1, 1, 2)))] for node in nodes}
            start = [chance.choice(nodes) for _ in range(chance.randint(0, 2))]
            wanted = set(chance.sample(nodes, chance.randint(0, min(2, len(nodes)))))
            found = self.search(start, edges, wanted)
            expected = least(start, edges, wanted)
            lengths[expected] = lengths.get(expected, 0) + 1
            if expected is None:
                self.assertIsNone(found)
                continue
            self.assertIsInstance(found, list)
            self.assertEqual(len(found), expected)
            self.assertIn(found[0], start)
            self.assertIn(found[-1], wanted)
            for node, other in zip(found, found[1:]):
                self.assertIn(other, edges[node])
        self.assertGreater(min(lengths[count] for count in (None, 1, 2, 3, 4)), 15)
