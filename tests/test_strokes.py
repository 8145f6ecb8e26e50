import collections
import copy
import itertools
import random
import unittest

from layerink.errors import BadWeb
from layerink.places import places, widths
from layerink.strokes import ports, tracks
from drawings import fewer_drawings, plain_drawing
from signs import columns_of, ports_by_words, stroke_signs, tracks_by_words
from samples import BAD_WEBS, HUGE, web_of


def placed_drawings():
    """Tuples (web, rows, chains, places), the places told ones or roomy ones."""
    source = random.Random(31)
    for number, (web, layering, some, links) in enumerate(fewer_drawings()):
        columns = places(some, links, widths(web, layering))
        if number % 4 == 2:
            far = source.randrange(0, 50, 2)
            columns = [[3 * column + far for column in row] for row in columns]
        yield web, some, links, columns


def free_segments(source, count):
    """A list of segments with unlike even lower and odd upper ports, rising."""
    reach = source.choice([count, 2 * count, 5 * count])
    lower = source.sample(range(0, 2 * reach, 2), count)
    upper = source.sample(range(1, 2 * reach, 2), count)
    return sorted(zip(lower, upper, source.sample(range(80), count)))


def crosses(one, other):
    return (one[0] - other[0]) * (one[1] - other[1]) < 0


class Ports(unittest.TestCase):
    def test_no_rows(self):
        self.assertEqual(ports(((), (), ()), [], [], []), [])

    def test_one_row(self):
        self.assertEqual(ports(web_of(2, []), [[(0, 1), (0, 0)]], [], [[0, 6]]), [])

    def test_no_segments(self):
        some = [[(0, 0)], [], [(0, 1)], [(0, 2)]]
        self.assertEqual(ports(web_of(3, []), some, [], [[0], [], [0], [0]]), [[], [], []])

    def test_one_segment(self):
        web = web_of(2, [(0, 1)])
        self.assertEqual(ports(web, *plain_drawing(web, [0, 1]), [[4], [10]]), [[(4, 11, 0)]])

    def test_a_bend(self):
        web = web_of(2, [(0, 1)])
        told = ports(web, *plain_drawing(web, [0, 2]), [[4], [0], [6]])
        self.assertEqual(told, [[(4, 1, 0)], [(0, 7, 0)]])

    def test_doubled_and_turned_arrows(self):
        web = web_of(2, [(0, 1), (1, 0), (0, 1), (0, 0)])
        told = ports(web, *plain_drawing(web, [0, 1]), [[0], [2]])
        self.assertEqual(told, [[(0, 3, 0), (2, 5, 1), (4, 7, 2)]])

    def test_ordered_by_the_items_at_the_other_end(self):
        web = web_of(5, [(0, 3), (0, 2), (1, 3), (1, 2), (0, 4)])
        _, links = plain_drawing(web, [0, 0, 1, 1, 1])
        some = [[(0, 1), (0, 0)], [(0, 3), (0, 2), (0, 4)]]
        told = ports(web, some, links, [[0, 6], [0, 6, 12]])
        self.assertEqual(told, [[(0, 1, 2), (2, 7, 3), (6, 3, 0), (8, 9, 1), (10, 13, 4)]])

    def test_as_worded(self):
        for web, some, links, columns in placed_drawings():
            told = ports(web, some, links, columns)
            self.assertEqual(told, ports_by_words(some, links, columns))

    def test_kinds(self):
        for web, some, links, columns in placed_drawings():
            told = ports(web, some, links, columns)
            self.assertIs(type(told), list)
            self.assertEqual(len(told), max(len(some) - 1, 0))
            for segments in told:
                self.assertIs(type(segments), list)
                self.assertTrue(all(type(segment) is tuple and len(segment) == 3 for segment in segments))
                self.assertEqual(segments, sorted(segments))
                self.assertTrue(all(lower % 2 == 0 and upper % 2 == 1 for lower, upper, _ in segments))
                lists = [[segment[which] for segment in segments] for which in range(3)]
                self.assertTrue(all(len(set(some)) == len(some) for some in lists))
            often = collections.Counter(arrow for segments in told for _, _, arrow in segments)
            self.assertEqual([often[arrow] for arrow in range(len(links))], [max(len(chain) - 1, 0) for chain in links])

    def test_far_places(self):
        web = web_of(2, [(0, 1), (0, 1)])
        told = ports(web, *plain_drawing(web, [0, 1]), [[HUGE - 1], [0]])
        self.assertEqual(told, [[(HUGE - 1, 1, 0), (HUGE + 1, 3, 1)]])

    def test_bad_webs(self):
        for why, web in BAD_WEBS.items():
            with self.subTest(why), self.assertRaises(BadWeb):
                ports(web, [], [], [])

    def test_handed_in(self):
        for web, some, links, columns in itertools.islice(placed_drawings(), 0, None, 5):
            before = copy.deepcopy((some, links, columns))
            told = ports(web, some, links, columns)
            kept = copy.deepcopy(told)
            self.assertEqual((some, links, columns), before)
            for segments in told:
                segments.clear()
            told.clear()
            self.assertEqual(ports(places=columns, chains=links, rows=some, web=web), kept)


class Tracks(unittest.TestCase):
    def test_no_segments(self):
        self.assertEqual(tracks([]), [])

    def test_one(self):
        self.assertEqual(tracks([(0, 1, 5)]), [1])
        self.assertEqual(tracks([(2, 1, 5)]), [1])
        self.assertEqual(tracks([(HUGE - 1, 1, 0), (HUGE + 1, 3, 1)]), [1, 2])

    def test_beside_one_another(self):
        self.assertEqual(tracks([(0, 1, 0), (2, 3, 1), (6, 5, 2)]), [1, 1, 1])

    def test_to_the_right_from_right_to_left(self):
        self.assertEqual(tracks([(0, 3, 0), (2, 5, 1), (4, 7, 2)]), [3, 2, 1])

    def test_to_the_left_from_left_to_right(self):
        self.assertEqual(tracks([(2, 1, 0), (4, 3, 1), (6, 5, 2), (8, 7, 3)]), [1, 1, 1, 1])
        self.assertEqual(tracks([(4, 1, 0), (6, 3, 1), (8, 5, 2)]), [1, 2, 3])

    def test_those_to_the_right_go_first(self):
        self.assertEqual(tracks([(0, 3, 0), (2, 1, 1)]), [1, 2])
        self.assertEqual(tracks([(0, 5, 0), (2, 7, 1), (4, 3, 2)]), [2, 1, 3])

    def test_behind_the_greatest(self):
        # The last one overlaps one with track 1 and one with track 3.
        some = [(0, 9, 0), (2, 7, 1), (4, 5, 2), (20, 13, 3), (22, 1, 4)]
        self.assertEqual(tracks(some), [3, 2, 1, 1, 4])

    def test_the_ends_count(self):
        self.assertEqual(tracks([(0, 5, 0), (4, 7, 1)]), [2, 1])
        self.assertEqual(tracks([(0, 3, 0), (4, 7, 1)]), [1, 1])

    def lists(self):
        source = random.Random(32)
        for web, some, links, columns in placed_drawings():
            yield from ports(web, some, links, columns)
        for number in range(300):
            yield free_segments(source, number % 25)

    def test_as_worded(self):
        for some in self.lists():
            before = list(some)
            told = tracks(some)
            self.assertEqual(told, tracks_by_words(some))
            self.assertIs(type(told), list)
            self.assertEqual(some, before)
            told.append(0)
            self.assertEqual(tracks(some=some), told[:-1])

    def test_overlapping_ones_are_unlike(self):
        for some in self.lists():
            for (one, track), (other, mate) in itertools.combinations(zip(some, tracks(some)), 2):
                self.assertTrue(track != mate or not columns_of(one) & columns_of(other))

    def test_strokes_meet_where_they_cross(self):
        for some in self.lists():
            numbers = tracks(some)
            last = max(numbers, default=0) + 1
            strokes = [stroke_signs(segment, track, last) for segment, track in zip(some, numbers)]
            for (one, first), (other, second) in itertools.combinations(zip(some, strokes), 2):
                self.assertEqual(len(first.keys() & second.keys()), crosses(one, other))

    def test_in_another_order(self):
        source = random.Random(33)
        for number in range(100):
            some = free_segments(source, number % 20)
            known = dict(zip(some, tracks(some)))
            source.shuffle(some)
            self.assertEqual(tracks(some), [known[segment] for segment in some])


if __name__ == "__main__":
    unittest.main()
