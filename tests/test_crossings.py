import copy
import itertools
import random
import time
import unittest

from layerink.chains import chains, rows
from layerink.crossings import between, crossings
from layerink.layers import layers
from drawings import between_by_words, in_any_order
from layerings import roomy_webs
from samples import HUGE, mixed_webs, web_of


def drawn_webs():
    """Pairs of rows, in any order, and chains."""
    source = random.Random(13)
    for web, layering in roomy_webs():
        links, plain = chains(web, layering), rows(web, layering)
        yield plain, links
        for _ in range(3):
            yield in_any_order(source, plain), links
    for web in itertools.islice(mixed_webs(), 0, None, 5):
        layering = layers(web)
        yield in_any_order(source, rows(web, layering)), chains(web, layering)


def plain(count, pairs, layering):
    web = web_of(count, pairs)
    return rows(web, layering), chains(web, layering)


class Crossings(unittest.TestCase):
    def check(self, some, links, expected):
        told = crossings(some, links)
        self.assertEqual(told, expected)
        self.assertIs(type(told), int)
        self.assertIs(type(between(some, links, 0)), int)

    def test_nothing_to_cross(self):
        self.check([], [], 0)
        self.check([[]], [], 0)
        self.check(*plain(3, [], [0, 0, 2]), 0)
        self.check(*plain(1, [(0, 0), (0, 0)], [0]), 0)
        self.check(*plain(2, [(0, 1)], [0, 3]), 0)

    def test_two_segments(self):
        some, links = plain(4, [(0, 3), (1, 2)], [0, 0, 1, 1])
        self.check(some, links, 1)
        self.check([some[0][::-1], some[1]], links, 0)
        self.check([some[0], some[1][::-1]], links, 0)
        self.check([some[0][::-1], some[1][::-1]], links, 1)

    def test_beside_one_another(self):
        self.check(*plain(4, [(0, 2), (1, 3)], [0, 0, 1, 1]), 0)

    def test_an_item_in_common(self):
        self.check(*plain(3, [(0, 1), (0, 2)], [0, 1, 1]), 0)
        self.check(*plain(3, [(0, 2), (0, 1)], [0, 1, 1]), 0)
        self.check(*plain(3, [(0, 2), (1, 2)], [0, 0, 1]), 0)
        self.check(*plain(3, [(1, 2), (0, 2)], [0, 0, 1]), 0)
        self.check(*plain(2, [(0, 1), (0, 1), (1, 0)], [0, 1]), 0)

    def test_doubled_arrows_cross_as_often(self):
        self.check(*plain(4, [(0, 3), (1, 2), (0, 3)], [0, 0, 1, 1]), 2)
        self.check(*plain(4, [(0, 3), (1, 2), (0, 3), (2, 1), (1, 2)], [0, 0, 1, 1]), 6)

    def test_all_to_all(self):
        pairs = list(itertools.product(range(4), range(4, 8)))
        for some in [pairs, pairs[::-1]]:
            self.check(*plain(8, some, [0] * 4 + [1] * 4), 36)

    def test_bends(self):
        # The arrow from box 0 to box 4 has a bend behind box 1.
        some, links = plain(5, [(0, 4), (1, 2), (3, 1)], [0, 1, 2, 0, 2])
        self.assertEqual(some, [[(0, 0), (0, 3)], [(0, 1), (1, 0, 1)], [(0, 2), (0, 4)]])
        self.check(some, links, 1)
        self.check([some[0], some[1][::-1], some[2]], links, 1)
        self.check([some[0], some[1][::-1], some[2][::-1]], links, 0)
        self.check([some[0], some[1], some[2][::-1]], links, 2)

    def test_turned_arrows(self):
        self.check(*plain(4, [(0, 2), (2, 0), (0, 3), (3, 0), (1, 2)], [0, 0, 1, 1]), 2)

    def test_segments_of_unlike_rows(self):
        self.check(*plain(6, [(0, 2), (1, 3), (2, 4), (3, 5)], [0, 0, 1, 1, 2, 2]), 0)
        self.check(*plain(6, [(0, 3), (1, 2), (2, 5), (3, 4)], [0, 0, 1, 1, 2, 2]), 2)

    def test_as_worded(self):
        crossed = 0
        for some, links in drawn_webs():
            expected = [between_by_words(some, links, upper) for upper in range(len(some))]
            crossed += sum(expected)
            self.assertEqual(crossings(some, links), sum(expected))
            self.assertEqual([between(some, links, upper) for upper in range(len(some))], expected)
        self.assertGreater(crossed, 1000)

    def test_a_short_time(self):
        web = (tuple(web_of(40, [])[0]), tuple((box % 20, 39 - box % 19, 1, 1) for box in range(80)), ())
        layering = [0] * 20 + [150] * 20
        some, links = rows(web, layering), chains(web, layering)
        start = time.process_time()
        told = crossings(some, links)
        self.assertLess(time.process_time() - start, 5)
        self.assertEqual(told, sum(between_by_words(some, links, upper) for upper in (0, 149)))

    def test_by_name(self):
        some, links = plain(4, [(0, 3), (1, 2)], [0, 0, 1, 1])
        self.assertEqual(crossings(chains=links, rows=some), 1)


class Between(unittest.TestCase):
    def test_each_row(self):
        some, links = plain(6, [(0, 3), (1, 2), (2, 4), (3, 5), (0, 4)], [0, 0, 1, 1, 2, 2])
        self.assertEqual([between(some, links, upper) for upper in range(3)], [2, 1, 0])

    def test_no_such_rows(self):
        for some, links in itertools.islice(drawn_webs(), 0, None, 3):
            for upper in [-1, -2, -len(some), -len(some) - 1, len(some) - 1, len(some), len(some) + 1, HUGE, -HUGE]:
                if not 0 <= upper < len(some) - 1:
                    self.assertEqual(between(some, links, upper), 0)
        some, links = plain(4, [(0, 3), (1, 2)], [0, 0, 1, 1])
        self.assertEqual([between(some, links, upper) for upper in (-2, -1, 0, 1, 2)], [0, 0, 1, 0, 0])
        self.assertEqual([between([], [], upper) for upper in (-1, 0, 1)], [0, 0, 0])

    def test_sum(self):
        for some, links in drawn_webs():
            parts = [between(some, links, upper) for upper in range(-2, len(some) + 3)]
            self.assertEqual(sum(parts), crossings(some, links))

    def test_by_name(self):
        some, links = plain(4, [(0, 3), (1, 2)], [0, 0, 1, 1])
        self.assertEqual(between(upper=0, chains=links, rows=some), 1)


class HandedIn(unittest.TestCase):
    def test_lists_stay_and_the_same_is_told(self):
        for some, links in drawn_webs():
            before = copy.deepcopy((some, links))
            first = [crossings(some, links)] + [between(some, links, upper) for upper in range(len(some))]
            again = [crossings(some, links)] + [between(some, links, upper) for upper in range(len(some))]
            self.assertEqual((some, links), before)
            self.assertEqual(first, again)

    def test_lists_changed_later(self):
        some, links = plain(4, [(0, 3), (1, 2)], [0, 0, 1, 1])
        self.assertEqual(crossings(some, links), 1)
        some[0].reverse()
        self.assertEqual(crossings(some, links), 0)
        self.assertEqual(between(some, links, 0), 0)
        links.pop()
        some[0].reverse()
        self.assertEqual(crossings(some, links), 0)


if __name__ == "__main__":
    unittest.main()
