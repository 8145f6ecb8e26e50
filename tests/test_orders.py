import copy
import itertools
import random
import time
import unittest

from layerink.chains import chains, rows
from layerink.layers import layers
from layerink.orders import ordered
from drawings import between_by_words, crossings_by_words, drawings, in_any_order
from layerings import random_arrows, roomy_layering
from samples import NAMES, web_of


def pairs_of(row):
    """All pairs (left, right) of a row."""
    return list(itertools.combinations(row, 2))


def all_pairs(some):
    return [pair for row in some for pair in pairs_of(row)]


def stands(some, pair):
    left, right = pair
    row = next(row for row in some if left in row)
    return right in row and row.index(left) < row.index(right)


def near(some, links, number):
    """The crossings above and below a row."""
    return between_by_words(some, links, number - 1) + between_by_words(some, links, number)


def helpful_exchanges(some, links, held):
    """The neighbours, no held pair, whose exchange makes fewer crossings."""
    found = []
    for number, row in enumerate(some):
        before = near(some, links, number)
        for place, pair in enumerate(zip(row, row[1:])):
            if pair in held:
                continue
            other = some[:number] + [row[:place] + [pair[1], pair[0]] + row[place + 2:]] + some[number + 1:]
            if near(other, links, number) < before:
                found.append(pair)
    return found


class Ordered(unittest.TestCase):
    def check(self, some, links, held=None):
        before = copy.deepcopy((some, links, held))
        told = ordered(some, links, held)
        self.assertEqual((some, links, held), before)
        self.assertIs(type(told), list)
        self.assertEqual([sorted(row) for row in told], [sorted(row) for row in some])
        self.assertTrue(all(type(row) is list for row in told))
        self.assertLessEqual(crossings_by_words(told, links), crossings_by_words(some, links))
        pairs = held or []
        self.assertTrue(all(stands(told, pair) for pair in pairs))
        self.assertEqual(helpful_exchanges(told, links, set(pairs)), [])
        self.assertEqual(ordered(some, links, held), told)
        return told

    def test_no_rows(self):
        self.assertEqual(self.check([], []), [])
        self.assertEqual(self.check([], [], []), [])
        self.assertEqual(self.check([[]], []), [[]])

    def test_no_segments(self):
        some = [[(0, 2), (0, 0)], [], [(0, 1)]]
        self.assertEqual([sorted(row) for row in self.check(some, [])], [[(0, 0), (0, 2)], [], [(0, 1)]])

    def test_two_segments_that_cross(self):
        links = [[(0, 0), (0, 3)], [(0, 1), (0, 2)]]
        some = [[(0, 0), (0, 1)], [(0, 2), (0, 3)]]
        self.assertEqual(crossings_by_words(self.check(some, links), links), 0)
        held = [((0, 0), (0, 1))]
        self.assertEqual(self.check(some, links, held), [some[0], some[1][::-1]])
        held = [((0, 2), (0, 3))]
        self.assertEqual(self.check(some, links, held), [some[0][::-1], some[1]])
        held = [((0, 0), (0, 1)), ((0, 2), (0, 3))]
        self.assertEqual(self.check(some, links, held), some)

    def test_an_exchange_that_helps_on_one_side_only(self):
        # Between rows 1 and 2 three segments cross one another no more when the
        # two items are exchanged, between rows 0 and 1 one more does.
        links = [[(0, 0), (0, 2)], [(0, 1), (0, 3)], [(0, 2), (0, 5)], [(0, 3), (0, 4)], [(0, 2), (0, 5)]]
        some = [[(0, 0), (0, 1)], [(0, 2), (0, 3)], [(0, 4), (0, 5)]]
        held = [((0, 0), (0, 1)), ((0, 4), (0, 5))]
        told = self.check(some, links, held)
        self.assertEqual(told, [some[0], some[1][::-1], some[2]])
        links = links[:2] + links[:2] + links[2:4]
        self.assertEqual(self.check(some, links, held), some)

    def test_nothing_held(self):
        for _, _, some, links in drawings():
            told = self.check(some, links)
            self.assertEqual(ordered(some, links, []), told)

    def test_few_held(self):
        source = random.Random(14)
        for _, _, some, links in drawings():
            pairs = all_pairs(some)
            self.check(some, links, source.sample(pairs, min(len(pairs), source.randint(1, 5))))

    def test_many_held(self):
        source = random.Random(15)
        for _, _, some, links in drawings():
            pairs = all_pairs(some)
            self.check(some, links, source.sample(pairs, len(pairs) * source.choice([50, 80, 95]) // 100))

    def test_a_part_of_each_row_held(self):
        source = random.Random(16)
        for _, _, some, links in drawings():
            parts = [[item for item in row if item[0] == 0 and source.random() < 0.7] for row in some]
            self.check(some, links, all_pairs(parts))

    def test_all_held(self):
        for _, _, some, links in drawings():
            self.assertEqual(self.check(some, links, all_pairs(some)), some)

    def test_neighbours_held(self):
        for _, _, some, links in drawings():
            self.assertEqual(self.check(some, links, [pair for row in some for pair in zip(row, row[1:])]), some)

    def test_rows_in_order_already(self):
        for _, _, some, links in drawings():
            self.check(ordered(some, links), links)

    def test_never_more_crossings(self):
        # Row by row alone, going down and up again, these would get two crossings instead of one.
        pairs = [(6, 4), (0, 2), (7, 6), (0, 6), (0, 2), (2, 5), (1, 6)]
        links = [[(0, one), (0, other)] for one, other in pairs]
        some = [[(0, 0), (0, 1), (0, 7)], [(0, 2), (0, 6)], [(0, 3), (0, 4), (0, 5)]]
        self.assertEqual(crossings_by_words(some, links), 1)
        self.check(some, links, [((0, 0), (0, 7)), ((0, 3), (0, 5)), ((0, 4), (0, 5))])

    def test_crossings_are_taken_off(self):
        before = sum(crossings_by_words(some, links) for _, _, some, links in drawings())
        after = sum(crossings_by_words(ordered(some, links), links) for _, _, some, links in drawings())
        self.assertLess(after, before // 2)

    def test_what_is_told_is_new(self):
        some = [[(0, 0), (0, 1)], [(0, 2)]]
        links = [[(0, 0), (0, 2)]]
        told = ordered(some, links)
        told[0].reverse()
        told.pop()
        self.assertEqual(some, [[(0, 0), (0, 1)], [(0, 2)]])
        self.assertEqual(ordered(some, links), [[(0, 0), (0, 1)], [(0, 2)]])

    def test_by_name(self):
        links = [[(0, 0), (0, 3)], [(0, 1), (0, 2)]]
        some = [[(0, 0), (0, 1)], [(0, 2), (0, 3)]]
        held = [((0, 0), (0, 1))]
        self.assertEqual(ordered(held=held, chains=links, rows=some), ordered(some, links, held))
        self.assertEqual(ordered(chains=links, rows=some), ordered(some, links))


class ShortTime(unittest.TestCase):
    def check(self, some, links):
        for held in (None, all_pairs(some)[::2]):
            start = time.process_time()
            told = ordered(some, links, held)
            self.assertLess(time.process_time() - start, 20)
            self.assertEqual([sorted(row) for row in told], [sorted(row) for row in some])

    def test_forty_boxes(self):
        source = random.Random(17)
        for _ in range(3):
            web = (NAMES[:40], random_arrows(source, 40, 80), ())
            for layering in (layers(web), [layer * 4 for layer in roomy_layering(source, web)]):
                self.check(in_any_order(source, rows(web, layering)), chains(web, layering))

    def test_two_far_layers(self):
        source = random.Random(18)
        web = web_of(40, [(place % 20, 39 - place % 19) for place in range(80)])
        layering = [0] * 20 + [60] * 20
        self.check(in_any_order(source, rows(web, layering)), chains(web, layering))


if __name__ == "__main__":
    unittest.main()
