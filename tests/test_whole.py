"""What holds over the whole program: its interface, its refusals of webs, and the whole way of a web."""

import copy
import importlib
import inspect
import random
import time
import unittest

from layerink import board, chains, crossings, language, layers, orders, pages, pictures, places, rings, strokes, webs
from layerink.errors import BadArrow, BadText, BadWeb, BadWay, Clash
from drawings import crossings_by_words
from layerings import is_clashing_ring, random_arrows, roomy_webs, ties_of, wild_webs
from samples import BAD_WEBS, HUGE, NAMES, full_web, web_of
from signs import arrows_by_words

FUNCTIONS = {
    "webs": ["is_web(web)", "boxes_of(web, arrow)", "without(web, arrows)"],
    "rings": ["turned(web)", "ring(web, arrow)", "knots(web)"],
    "layers": [
        "ties(web)", "clash(web)", "layers(web)", "flow(web)", "length(web, layering=None)", "worth(web, flow)",
    ],
    "chains": ["chains(web, layering)", "rows(web, layering)"],
    "crossings": ["crossings(rows, chains)", "between(rows, chains, upper)"],
    "orders": ["ordered(rows, chains, held=None)"],
    "places": [
        "widths(web, layering)", "blocks(rows, chains, way=0)", "placed(rows, chains, widths, way=0)",
        "places(rows, chains, widths)",
    ],
    "strokes": ["ports(web, rows, chains, places)", "tracks(some)"],
    "pictures": ["picture(web, layering, rows)", "read_picture(text)"],
    "language": ["read_web(text)", "web_text(web)"],
    "board": ["board_of(web)"],
    "pages": ["deed_text(deed)", "read_deed(text)", "page(board, skip=0)", "read_page(text)"],
}

METHODS = {
    ("board", "Board"): [
        "do(deed)", "box(name)", "drop(name)", "arrow(one, other, least=1, weight=1)", "cut(number)",
        "alter(number, least=1, weight=1)", "say(one, other, least=1)", "unsay(number)", "hold()", "free()", "undo()", "redo()",
        "deeds()", "twin()", "web()", "numbers()", "held()", "layers()", "rows()", "crossings()", "moved()", "draw()", "turned()",
    ],
    ("desk", "Desk"): ["say(line)", "board()"],
}

# Each function that takes a web, asked by the names of its arguments.
WITH_WEBS = [
    (webs.boxes_of, {"arrow": -1}), (webs.without, {"arrows": []}), (rings.turned, {}), (rings.ring, {"arrow": HUGE}),
    (rings.knots, {}), (layers.ties, {}), (layers.clash, {}), (layers.layers, {}), (layers.flow, {}), (layers.length, {}),
    (layers.length, {"layering": []}), (layers.worth, {"flow": []}), (chains.chains, {"layering": []}),
    (chains.rows, {"layering": []}), (places.widths, {"layering": []}),
    (strokes.ports, {"rows": [], "chains": [], "places": []}), (pictures.picture, {"layering": [], "rows": []}),
    (language.web_text, {}), (board.board_of, {}),
]


def signature(function, skip=0):
    told = inspect.signature(function)
    return function.__name__ + str(told.replace(parameters=list(told.parameters.values())[skip:]))


class Interface(unittest.TestCase):
    def test_functions(self):
        for module, some in FUNCTIONS.items():
            found = importlib.import_module("layerink." + module)
            for text in some:
                function = vars(found)[text.partition("(")[0]]
                self.assertEqual(signature(function), text)
                self.assertEqual(function.__module__, "layerink." + module)

    def test_methods_stand_in_their_classes(self):
        for (module, name), some in METHODS.items():
            found = vars(importlib.import_module("layerink." + module))[name]
            self.assertEqual(found.__bases__, (object,))
            self.assertEqual(len(inspect.signature(found).parameters), 0)
            for text in some:
                self.assertEqual(signature(vars(found)[text.partition("(")[0]], 1), text)
        for name in ("__eq__", "__len__", "__str__", "__repr__"):
            self.assertIn(name, vars(board.Board))

    def test_every_web_function_is_looked_at(self):
        told = {text.partition("(")[0] for some in FUNCTIONS.values() for text in some if text.partition("(")[2].startswith("web")}
        self.assertEqual({function.__name__ for function, _ in WITH_WEBS}, told - {"is_web"})


class Refusals(unittest.TestCase):
    def test_bad_webs_ahead_of_all_else(self):
        for function, more in WITH_WEBS:
            for why, web in BAD_WEBS.items():
                with self.subTest(why), self.assertRaises(BadWeb):
                    function(web=web, **more)

    def test_a_bad_web_whose_ties_would_clash(self):
        web = web_of(2, [(0, 1), (0, 2)], [(1, 0, 5)])
        for function, more in WITH_WEBS:
            self.assertRaises(BadWeb, lambda: function(web, *more.values()))

    def test_one_class_each(self):
        clashing = web_of(2, [(0, 1)], [(1, 0, 5)])
        for error, ask in [
            (BadArrow, lambda: webs.boxes_of(clashing, 1)), (BadArrow, lambda: rings.ring(clashing, 0)),
            (Clash, lambda: layers.length(clashing, [0, 0])), (BadWay, lambda: places.blocks([], [], 4)),
            (BadWay, lambda: places.placed([], [], [], -1)), (BadText, lambda: language.read_web(";")),
            (BadText, lambda: pages.read_deed("")), (BadText, lambda: pages.read_page("box")),
        ]:
            with self.assertRaises(error) as caught:
                ask()
            self.assertIs(type(caught.exception), error)

    def test_clashes(self):
        seen = 0
        for web in wild_webs(150):
            ring = layers.clash(web)
            if ring is None:
                continue
            seen += 1
            for ask in (lambda: layers.layers(web), lambda: layers.flow(web), board.board_of(web).draw, board.board_of(web).hold):
                with self.assertRaises(Clash) as caught:
                    ask()
                self.assertTrue(is_clashing_ring(ties_of(web), caught.exception.ring))
        self.assertGreater(seen, 20)


class WholeWay(unittest.TestCase):
    def go(self, web):
        """From the web's text to its picture and back, step by step."""
        text = language.web_text(web)
        self.assertEqual(language.read_web(text), web)
        self.assertEqual(rings.turned(webs.without(web, rings.turned(web))), [])
        layering = layers.layers(web)
        self.assertEqual(layers.length(web), layers.worth(web, layers.flow(web)))
        links = chains.chains(web, layering)
        some = orders.ordered(chains.rows(web, layering), links)
        told = pictures.picture(web, layering, some)
        self.assertEqual(pictures.read_picture(told), arrows_by_words(web))
        self.assertEqual(told.count("+"), crossings.crossings(some, links))
        self.assertEqual(told.count("+"), crossings_by_words(some, links))
        mine = board.board_of(web)
        self.assertEqual((mine.layers(), mine.rows(), mine.draw()), (layering, some, told))
        self.assertEqual(str(mine), text)
        return told

    def test_roomy_webs(self):
        for web, _ in roomy_webs():
            self.go(web)

    def test_great_webs(self):
        source = random.Random(71)
        start = time.process_time()
        for _ in range(6):
            self.go((NAMES[:40], random_arrows(source, 40, 80), ()))
        self.go(full_web()[:2] + ((),))
        self.assertLess(time.process_time() - start, 30)

    def test_one_layer_and_single_file(self):
        self.assertEqual(self.go(web_of(40, [])).count("\n"), 0)
        told = self.go(web_of(40, [(box, box + 1) for box in range(39)]))
        self.assertEqual(told.split("\n")[::4], [f"[{name}]" for name in NAMES[:40]])

    def test_the_same_told_twice(self):
        for web, _ in list(roomy_webs())[::4]:
            self.assertEqual(self.go(web), self.go(copy.deepcopy(web)))


if __name__ == "__main__":
    unittest.main()
