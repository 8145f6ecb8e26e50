import copy
import random
import time
import unittest

from layerink.chains import chains, rows
from layerink.errors import BadWay, BadWeb, InkError
from layerink.layers import layers
from layerink.places import blocks, placed, places, widths
from drawings import drawings, fewer_drawings, in_any_order
from layerings import random_arrows, roomy_layering
from placings import blocks_by_words, middles_by_words, placed_by_words, places_by_words, wide, widths_by_words
from samples import BAD_WEBS, HUGE, NAMES, web_of

BAD_WAYS = [-1, 4, -2, 5, -4, 7, HUGE, -HUGE]


def sized_drawings():
    """Tuples (rows, chains, widths): told widths, greater ones, and any even ones from 2 on."""
    source = random.Random(21)
    for number, (web, layering, some, links) in enumerate(fewer_drawings()):
        sizes = widths(web, layering)
        if number % 4 == 1:
            sizes = [size + source.choice([0, 2, 8]) for size in sizes]
        if number % 4 == 2:
            sizes = [source.choice([2, 2, 4, 6, 30]) for _ in sizes]
        yield some, links, sizes


def mirrored(some):
    return [row[::-1] for row in some]


class Widths(unittest.TestCase):
    def check(self, web, layering, expected):
        told = widths(web, layering)
        self.assertEqual(told, expected)
        self.assertIs(type(told), list)

    def test_names(self):
        names = ("a", "bb", "ccc", "dddd", "eeeee", "ffffff")
        self.check((names, (), ()), [0] * 6, [4, 4, 6, 6, 8, 8])

    def test_no_boxes(self):
        self.check(((), (), ()), [], [])

    def test_loops(self):
        for loops, width in enumerate([4, 4, 6, 6, 8, 8, 10]):
            self.check((("a",), ((0, 0, 1, 1),) * loops, ()), [0], [width])
        self.check((("a",), ((0, 0, 1, 1),) * 80, ()), [0], [84])

    def test_segments(self):
        for count, width in [(1, 4), (2, 4), (3, 6), (7, 14), (80, 160)]:
            self.check(web_of(2, [(0, 1)] * count), [0, 1], [max(width, 4)] * 2)
        # Below and above are not summed up, and the name is not put to them.
        self.check((("a", "b", "c"), ((0, 1, 1, 1), (1, 2, 1, 1)) * 2, ()), [0, 1, 2], [4, 4, 4])
        self.check((("a", "b", "ffffff"), ((0, 2, 1, 1),) * 3 + ((2, 1, 1, 1),) * 4, ()), [0, 2, 1], [6, 8, 8])

    def test_turned_arrows(self):
        self.check(web_of(3, [(0, 1), (1, 0), (1, 0), (2, 0)]), [0, 1, 1], [8, 6, 4])

    def test_loops_are_no_segments(self):
        self.check(web_of(2, [(0, 0)] * 3 + [(0, 1)] * 3), [0, 1], [8, 6])

    def test_as_worded(self):
        for web, layering, _, _ in drawings():
            told = widths(web, layering)
            self.assertEqual(told, widths_by_words(web, layering))
            self.assertTrue(all(width % 2 == 0 and width >= 4 for width in told))

    def test_bad_webs(self):
        for why, web in BAD_WEBS.items():
            with self.subTest(why), self.assertRaises(BadWeb):
                widths(web, [0] * len(web[0]))
            with self.subTest(why), self.assertRaises(BadWeb):
                widths(layering=[], web=web)

    def test_handed_in(self):
        layering = [0, 1]
        told = widths(web_of(2, [(0, 1)]), layering)
        told[0] = 9
        self.assertEqual(layering, [0, 1])
        self.assertEqual(widths(layering=layering, web=web_of(2, [(0, 1)])), [4, 4])

    def test_far_layers(self):
        self.assertEqual(widths(web_of(2, [(0, 1)] * 3), [0, HUGE]), [6, 6])


class Blocks(unittest.TestCase):
    def check(self, some, links, expected):
        told = [blocks(some, links, way) for way in range(4)]
        self.assertEqual(told, expected)
        self.assertEqual(blocks(some, links), expected[0])

    def test_nothing_to_join(self):
        self.check([], [], [[]] * 4)
        self.check([[], []], [], [[]] * 4)
        some = [[(0, 1), (0, 0)], [], [(0, 2)]]
        self.check(some, [], [[[(0, 1)], [(0, 0)], [(0, 2)]]] * 4)

    def test_a_single_file(self):
        some = [[(0, 0)], [(1, 0, 1)], [(0, 1)]]
        self.check(some, [[(0, 0), (1, 0, 1), (0, 1)]], [[[(0, 0), (1, 0, 1), (0, 1)]]] * 4)

    def test_two_neighbours_above(self):
        a, b, c = (0, 0), (0, 1), (0, 2)
        links = [[a, c], [b, c]]
        left, right = [[a, c], [b]], [[a], [b, c]]
        # Upwards a takes c first, from the right b does.
        self.check([[a, b], [c]], links, [left, right, left, right])

    def test_the_second_one_where_the_first_is_passed(self):
        a, b, c, d = (0, 0), (0, 1), (0, 2), (0, 3)
        links = [[a, c], [a, d], [b, d]]
        self.assertEqual(blocks([[a, b], [c, d]], links), [[a, c], [b, d]])
        self.assertEqual(blocks([[a, b], [d, c]], links), [[a, d], [b], [c]])

    def test_one_that_was_joined_already(self):
        a, b, c = (0, 0), (0, 1), (0, 2)
        links = [[a, b], [a, c]]
        self.check([[a], [b, c]], links, [[[a, b], [c]], [[a, c], [b]]] * 2)

    def test_as_often_as_segments(self):
        a, b, c = (0, 0), (0, 1), (0, 2)
        links = [[a, c], [b, c], [b, c], [b, c]]
        self.assertEqual(blocks([[a, b], [c]], links), [[a], [b, c]])
        self.assertEqual(blocks([[b, a], [c]], links, 1), [[b, c], [a]])

    def test_upward_lists_stand_from_the_top_down(self):
        a, b, c, d = (0, 0), (0, 1), (0, 2), (0, 3)
        links = [[a, c], [c, d], [b, c]]
        for way in range(4):
            told = blocks([[a, b], [c], [d]], links, way)
            self.assertEqual(told, [[a, c, d], [b]] if way in (0, 2) else [[a], [b, c, d]])

    def test_as_worded(self):
        for some, links, _ in sized_drawings():
            for way in range(4):
                told = blocks(some, links, way)
                self.assertEqual(told, blocks_by_words(some, links, way))
                items = sorted(item for block in told for item in block)
                self.assertEqual(items, sorted(item for row in some for item in row))
            self.assertEqual(blocks(some, links), blocks(some, links, 0))

    def test_mirrored(self):
        for some, links, _ in sized_drawings():
            for way in (0, 2):
                there = blocks(some, links, way + 1)
                self.assertEqual(sorted(there), sorted(blocks(mirrored(some), links, way)))

    def test_bad_ways(self):
        for way in BAD_WAYS:
            with self.assertRaises(BadWay) as caught:
                blocks([[(0, 0)]], [], way)
            self.assertIsInstance(caught.exception, InkError)
            with self.assertRaises(BadWay):
                blocks([], [], way)


class Placed(unittest.TestCase):
    def test_no_items(self):
        for way in range(4):
            self.assertEqual(placed([], [], [], way), [])
            self.assertEqual(placed([[], []], [], [], way), [[], []])

    def test_one_row(self):
        some = [[(0, 1), (0, 0), (0, 2)]]
        for way in range(4):
            self.assertEqual(placed(some, [], [4, 10, 6], way), [[0, 12, 18]])

    def test_a_block_is_straight(self):
        a, b, c, d = (0, 0), (0, 1), (0, 2), (0, 3)
        links = [[b, d]]
        some = [[a, b], [d], [c]]
        self.assertEqual(placed(some, links, [4, 6, 4, 10], 0), [[0, 6], [6], [0]])
        # To the right it is straight on its right side: b and d end at 12.
        self.assertEqual(placed(some, links, [4, 6, 4, 10], 1), [[0, 6], [2], [8]])

    def test_as_worded(self):
        for some, links, sizes in sized_drawings():
            for way in range(4):
                told = placed(some, links, sizes, way)
                self.assertEqual(told, placed_by_words(some, links, sizes, way))
            self.assertEqual(placed(some, links, sizes), placed(some, links, sizes, 0))

    def test_blocks_and_gaps(self):
        for some, links, sizes in sized_drawings():
            for way in range(4):
                told = placed(some, links, sizes, way)
                where = {item: place for row, line in zip(some, told) for item, place in zip(row, line)}
                sides = [(left, right) for row in some for left, right in zip(row, row[1:])]
                gaps = {pair: where[pair[1]] - where[pair[0]] - wide(pair[0], sizes) for pair in sides}
                self.assertTrue(all(gap >= 2 for gap in gaps.values()))
                if way in (0, 2):
                    self.check_left(blocks(some, links, way), where, gaps)

    def check_left(self, some, where, gaps):
        """One place for a block; and each block is at 0, or has an item that can't go further left."""
        tight = {right for (_, right), gap in gaps.items() if gap == 2}
        for block in some:
            self.assertEqual(len({where[item] for item in block}), 1)
            self.assertTrue(where[block[0]] == 0 or tight & set(block))

    def test_mirrored(self):
        for some, links, sizes in sized_drawings():
            for way in (0, 2):
                there = placed(some, links, sizes, way + 1)
                back = mirrored(placed(mirrored(some), links, sizes, way))
                ends = [
                    place + wide(item, sizes)
                    for row, line in zip(some, back) for item, place in zip(row, line)
                ]
                expected = [
                    [max(ends) - place - wide(item, sizes) for item, place in zip(row, line)]
                    for row, line in zip(some, back)
                ]
                self.assertEqual(there, expected)

    def test_huge_widths(self):
        some = [[(0, 0), (0, 1)]]
        self.assertEqual(placed(some, [], [HUGE - 1, 2]), [[0, HUGE + 1]])
        self.assertEqual(placed(some, [], [HUGE - 1, 2], 3), [[0, HUGE + 1]])

    def test_bad_ways(self):
        for way in BAD_WAYS:
            with self.assertRaises(BadWay):
                placed([[(0, 0)]], [], [4], way)
            with self.assertRaises(BadWay):
                placed([], [], [], way=way)


class Places(unittest.TestCase):
    def test_no_items(self):
        self.assertEqual(places([], [], []), [])
        self.assertEqual(places([[], []], [], []), [[], []])

    def test_one_row(self):
        self.assertEqual(places([[(0, 1), (0, 0)]], [], [4, 10]), [[0, 12]])

    def test_a_box_over_two(self):
        a, b, c = (0, 0), (0, 1), (0, 2)
        some, links = [[a], [b, c]], [[a, b], [a, c]]
        # Its four places are 0, 6, 0, 6.
        self.assertEqual(places(some, links, [4, 4, 4]), [[2], [0, 6]])

    def test_the_least_is_taken_off(self):
        taken_off = 0
        for some, links, sizes in sized_drawings():
            before = middles_by_words(some, links, sizes)
            least = min((place for row in before for place in row), default=0)
            taken_off += least > 0
            told = places(some, links, sizes)
            self.assertEqual([[place + least for place in row] for row in told], before)
        self.assertGreater(taken_off, 3)

    def test_as_worded(self):
        for some, links, sizes in sized_drawings():
            self.assertEqual(places(some, links, sizes), places_by_words(some, links, sizes))

    def test_even_and_apart(self):
        for some, links, sizes in sized_drawings():
            told = places(some, links, sizes)
            self.assertEqual([len(row) for row in told], [len(row) for row in some])
            flat = [place for row in told for place in row]
            self.assertTrue(all(place % 2 == 0 for place in flat))
            self.assertEqual(min(flat, default=0), 0)
            for row, line in zip(some, told):
                for item, place, after in zip(row, line, line[1:]):
                    self.assertGreaterEqual(after - place - wide(item, sizes), 2)


class HandedIn(unittest.TestCase):
    def test_lists_stay_and_the_same_is_told(self):
        for some, links, sizes in sized_drawings():
            before = copy.deepcopy((some, links, sizes))
            first = [places(some, links, sizes), placed(some, links, sizes, 3), blocks(some, links, 2)]
            kept = copy.deepcopy(first)
            self.assertEqual((some, links, sizes), before)
            for told in first:
                for row in told:
                    row.clear()
                told.clear()
            again = [places(some, links, sizes), placed(some, links, sizes, 3), blocks(some, links, 2)]
            self.assertEqual(again, kept)
            self.assertEqual((some, links, sizes), before)

    def test_by_name(self):
        a, b, c = (0, 0), (0, 1), (0, 2)
        some, links, sizes = [[a], [b, c]], [[a, b], [a, c]], [4, 6, 8]
        self.assertEqual(blocks(way=1, chains=links, rows=some), blocks(some, links, 1))
        self.assertEqual(blocks(chains=links, rows=some), blocks(some, links))
        self.assertEqual(placed(way=1, widths=sizes, chains=links, rows=some), placed(some, links, sizes, 1))
        self.assertEqual(placed(widths=sizes, chains=links, rows=some), placed(some, links, sizes, 0))
        self.assertEqual(places(widths=sizes, chains=links, rows=some), places(some, links, sizes))


class ShortTime(unittest.TestCase):
    def test_forty_boxes(self):
        source = random.Random(22)
        for _ in range(3):
            web = (NAMES[:40], random_arrows(source, 40, 80), ())
            for layering in (layers(web), [layer * 4 for layer in roomy_layering(source, web)]):
                some, links = in_any_order(source, rows(web, layering)), chains(web, layering)
                start = time.process_time()
                places(some, links, widths(web, layering))
                self.assertLess(time.process_time() - start, 10)


if __name__ == "__main__":
    unittest.main()
