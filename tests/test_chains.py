import copy
import itertools
import unittest

from layerink.chains import chains, rows
from layerink.errors import BadWeb
from layerink.layers import clash, layers
from layerings import keeps, roomy_webs, ties_of, wild_webs
from samples import BAD_WEBS, HUGE, mixed_webs, small_webs, web_of

NOTHING = ((), (), ())


def chain_by_words(web, layering, place):
    one, other, _, _ = web[1][place]
    if one == other:
        return []
    upper, lower = sorted((one, other), key=lambda box: layering[box])
    middle = [(1, place, layer) for layer in range(200) if layering[upper] < layer < layering[lower]]
    return [(0, upper), *middle, (0, lower)]


def row_by_words(web, layering, layer):
    boxes = [(0, box) for box in range(len(web[0])) if layering[box] == layer]
    ends = [sorted((layering[one], layering[other])) for one, other, _, _ in web[1]]
    return boxes + [(1, place, layer) for place, (top, end) in enumerate(ends) if top < layer < end]


def layered_webs():
    """Pairs of a web and a layering that keeps all its ties: told ones, and ones with more room."""
    for web, layering in roomy_webs():
        yield web, layering
        yield web, layers(web)
        yield web, [2 * layer + 1 for layer in layers(web)] if not web[2] else layering
    for web in itertools.chain(itertools.islice(small_webs(), 0, None, 9), mixed_webs(), wild_webs()):
        if clash(web) is None:
            yield web, layers(web)


class Chains(unittest.TestCase):
    def check(self, web, layering, expected):
        self.assertTrue(keeps(ties_of(web), layering))
        self.assertEqual(chains(web, layering), expected)

    def test_without_arrows(self):
        self.check(NOTHING, [], [])
        self.check(web_of(3, []), [0, 4, 2], [])

    def test_next_layer(self):
        self.check(web_of(2, [(1, 0)]), [1, 0], [[(0, 1), (0, 0)]])

    def test_bends(self):
        web = web_of(3, [(0, 1), (1, 2), (0, 2)])
        self.check(web, [0, 1, 2], [[(0, 0), (0, 1)], [(0, 1), (0, 2)], [(0, 0), (1, 2, 1), (0, 2)]])
        self.check(web, [1, 2, 5], [
            [(0, 0), (0, 1)],
            [(0, 1), (1, 1, 3), (1, 1, 4), (0, 2)],
            [(0, 0), (1, 2, 2), (1, 2, 3), (1, 2, 4), (0, 2)],
        ])

    def test_loops(self):
        self.check(web_of(2, [(0, 0), (0, 1), (1, 1)]), [0, 2], [[], [(0, 0), (1, 1, 1), (0, 1)], []])

    def test_doubled_arrows(self):
        self.check(web_of(2, [(0, 1), (0, 1)]), [0, 2],
                   [[(0, 0), (1, 0, 1), (0, 1)], [(0, 0), (1, 1, 1), (0, 1)]])

    def test_turned_arrows(self):
        self.check(web_of(3, [(0, 1), (1, 2), (2, 0)]), [0, 1, 2],
                   [[(0, 0), (0, 1)], [(0, 1), (0, 2)], [(0, 0), (1, 2, 1), (0, 2)]])

    def test_sayings_have_none(self):
        self.check(web_of(3, [(0, 1)], [(0, 2, 3), (2, 1, -9)]), [0, 1, 3], [[(0, 0), (0, 1)]])

    def test_as_worded(self):
        for web, layering in layered_webs():
            told = chains(web, layering)
            self.assertEqual(told, [chain_by_words(web, layering, place) for place in range(len(web[1]))])
            self.assertIsInstance(told, list)
            for chain in told:
                self.assertIsInstance(chain, list)
                self.assertEqual({type(item) for item in chain} | {tuple}, {tuple})

    def test_by_name(self):
        self.assertEqual(chains(layering=[0, 1], web=web_of(2, [(0, 1)])), [[(0, 0), (0, 1)]])


class Rows(unittest.TestCase):
    def check(self, web, layering, expected):
        self.assertTrue(keeps(ties_of(web), layering))
        self.assertEqual(rows(web, layering), expected)

    def test_without_boxes(self):
        self.check(NOTHING, [], [])

    def test_boxes_by_places(self):
        self.check(web_of(4, []), [0, 0, 0, 0], [[(0, 0), (0, 1), (0, 2), (0, 3)]])
        self.check(web_of(4, []), [1, 0, 1, 0], [[(0, 1), (0, 3)], [(0, 0), (0, 2)]])

    def test_bends_behind_boxes_by_arrows(self):
        web = web_of(4, [(3, 2), (0, 1), (0, 1), (1, 0), (3, 3)])
        self.check(web, [0, 3, 2, 0], [
            [(0, 0), (0, 3)],
            [(1, 0, 1), (1, 1, 1), (1, 2, 1), (1, 3, 1)],
            [(0, 2), (1, 1, 2), (1, 2, 2), (1, 3, 2)],
            [(0, 1)],
        ])

    def test_layers_without_items(self):
        self.check(web_of(1, [(0, 0)]), [3], [[], [], [], [(0, 0)]])
        self.check(web_of(3, [(0, 1)]), [1, 2, 5], [[], [(0, 0)], [(0, 1)], [], [], [(0, 2)]])
        self.check(web_of(2, [], [(0, 1, 3)]), [0, 3], [[(0, 0)], [], [], [(0, 1)]])

    def test_as_worded(self):
        for web, layering in layered_webs():
            told = rows(web, layering)
            lowest = max(layering, default=-1)
            self.assertEqual(told, [row_by_words(web, layering, layer) for layer in range(lowest + 1)])
            self.assertIsInstance(told, list)
            self.assertEqual({type(row) for row in told} | {list}, {list})

    def test_each_item_once(self):
        for web, layering in layered_webs():
            items = [item for row in rows(web, layering) for item in row]
            bends = [item for chain in chains(web, layering) for item in chain if item[0] == 1]
            self.assertEqual(len(items), len(set(items)))
            self.assertEqual(sorted(items), sorted([(0, box) for box in range(len(web[0]))] + bends))

    def test_by_name(self):
        self.assertEqual(rows(layering=[0, 1], web=web_of(2, [(0, 1)])), [[(0, 0)], [(0, 1)]])


class Refusals(unittest.TestCase):
    def test_bad_web(self):
        for label, (names, arrows, sayings) in BAD_WEBS.items():
            clashing = ((0, 1, 1), (1, 0, 1)) + sayings
            for web in [(names, arrows, sayings), (names, arrows, clashing)]:
                for layering in [[], [0], [0, 1], list(range(41)), [-1] * 3, [HUGE] * 2]:
                    with self.subTest(label):
                        handed = list(layering)
                        self.assertRaises(BadWeb, chains, web, handed)
                        self.assertRaises(BadWeb, rows, web, handed)
                        self.assertEqual(handed, layering)


class ToldLists(unittest.TestCase):
    def test_handed_in_lists_stay(self):
        for web, layering in roomy_webs():
            handed = list(layering)
            chains(web, handed)
            rows(web, handed)
            self.assertEqual(handed, layering)

    def test_changed_later(self):
        for web, layering in roomy_webs(40):
            handed = list(layering)
            before = copy.deepcopy([chains(web, handed), rows(web, handed)])
            for told in [chains(web, handed), rows(web, handed)]:
                for some in told:
                    some.append((0, 99))
                    some.reverse()
                told.append([])
                told[0] = None
            self.assertEqual([chains(web, handed), rows(web, handed)], before)
            told = [chains(web, handed), rows(web, handed)]
            handed.clear()
            self.assertEqual(told, before)

    def test_lists_of_one_answer_are_unlike(self):
        told = chains(web_of(2, [(0, 0), (1, 1), (0, 1), (0, 1)]), [0, 1])
        told[0].append(1)
        told[2].append(1)
        self.assertEqual((told[1], told[3]), ([], [(0, 0), (0, 1)]))
        told = rows(web_of(1, []), [3])
        told[0].append(1)
        self.assertEqual(told[1:], [[], [], [(0, 0)]])


if __name__ == "__main__":
    unittest.main()
