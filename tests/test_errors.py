import unittest

from layerink import errors

UNDER_INK_ERROR = [
    "BadWeb", "BadArrow", "BadWay", "BadName", "Taken", "Full", "Tied", "BadLeast",
    "BadWeight", "Same", "BadDeed", "BadText", "Clash",
]


class Bases(unittest.TestCase):
    def check(self, name, base):
        self.assertEqual(getattr(errors, name).__bases__, (base,), name)

    def test_tops(self):
        self.check("InkError", ValueError)
        self.check("Missing", LookupError)
        self.check("NothingLeft", IndexError)

    def test_under_ink_error(self):
        for name in UNDER_INK_ERROR:
            self.check(name, errors.InkError)

    def test_under_missing(self):
        for name in ["NoBox", "NoArrow", "NoSaying"]:
            self.check(name, errors.Missing)


class Fields(unittest.TestCase):
    def test_at(self):
        self.assertEqual(errors.BadText(0).at, 0)
        self.assertEqual(errors.BadText(at=17).at, 17)

    def test_ring(self):
        self.assertEqual(errors.Clash([2, 0]).ring, [2, 0])
        self.assertEqual(errors.Clash(ring=[1]).ring, [1])

    def test_ring_is_not_kept(self):
        places = [3, 1]
        error = errors.Clash(places)
        places.append(5)
        self.assertEqual(error.ring, [3, 1])
        error.ring.append(7)
        self.assertEqual(places, [3, 1, 5])

    def test_fields_of_each_object_are_its_own(self):
        first, second = errors.BadText(1), errors.BadText(2)
        self.assertEqual((first.at, second.at), (1, 2))
        first, second = errors.Clash([1]), errors.Clash([2])
        self.assertEqual((first.ring, second.ring), ([1], [2]))


if __name__ == "__main__":
    unittest.main()
