import random

from fourhinges.carts import Cart
from fourhinges.errors import BadCart, BadRoad, BadRule
from fourhinges.road import Road
from fourhinges.roadtext import read_road, road_text
from fourhinges.rules import Rule
from tests.roads import R, SINGLE, TURNS, random_road
from tests.test_bridgetext import NO_NUMBERS, TextCase

TEXT = ("road -3 0 9\nlane 1\ncart van 4 0 2 3 5\ncart gig 1 1 3\nstep 0 van 2 1\nstep 1 gig 1 0\n"
        "lane -1\ncart dray 0 0 8\nstep 0 dray 30 0")


def rows_with(at, row):
    rows = TEXT.split("\n")
    return "\n".join(rows[:at] + [row] + rows[at + 1:])


class RoadTextTest(TextCase):
    def read(self, text):
        return read_road(text)

    def test_there_and_back(self):
        rng = random.Random(460)
        roads = [random_road(rng, rng.randint(1, 8), rng.randint(1, 2), 20, rooms=rng.randint(1, 4)) for _ in range(60)]
        for road in [R, R.only(()), Road((0, 1), (TURNS, SINGLE.turned()))] + roads:
            text = road_text(road)
            self.assertIsInstance(text, str)
            self.assertEqual(read_road(text), road)
            self.assertEqual(road_text(read_road(text)), text)

    def test_words(self):
        self.assertEqual(road_text(R), "road 0 8 16 24\nlane 1\ncart dray 0 0 8\nstep 0 dray 30 0")
        rule = Rule((Cart("van", ((0, 2), (3, 5)), 4), Cart("gig", ((1, 3),), 1)), ((0, "van", 2, 1), (1, "gig", 1, 0)))
        road = Road((-3, 0, 9), (rule, SINGLE.turned()))
        self.assertEqual(road_text(road), TEXT)
        self.assertEqual(read_road(TEXT), road)

    def test_great_numbers(self):
        heavy = Cart("ox", ((0, 10 ** 30), (1, 1)), 200)
        road = Road((0, 200), (Rule((heavy,), ((3, "ox", 10 ** 299, 3),)),))
        self.assertEqual(read_road(road_text(road)), road)
        self.assertEqual(read_road(TEXT.replace("dray 30 0", "dray " + "3" * 300 + " 0")).rules[1].steps[0][2], int("3" * 300))
        self.refused(9, "number", TEXT.replace("dray 30 0", "dray " + "3" * 301 + " 0"))

    def test_spaces_and_words(self):
        rows = TEXT.split("\n")
        for at, row in enumerate(rows):
            words = row.split(" ")
            for wrong in (" " + row, row + " ", row.replace(" ", "  ", 1), "", " ", words[0] + " "):
                self.refused(at + 1, "word", rows_with(at, wrong))
            for sign in ("\t", ",", "\u00a0", "\u2003"):
                self.refused(at + 1, "word", rows_with(at, sign.join(words)))
            for wrong in (words[0].upper(), words[0] + "s", words[-1]):
                self.refused(at + 1, "word", rows_with(at, " ".join([wrong] + words[1:])))
        self.refused(1, "word", "")
        self.refused(1, "word", "\n" + TEXT)

    def test_which_row_may_follow_which(self):
        rows = {"road": "road 0 1", "lane": "lane 1", "cart": "cart a 0 0 1", "step": "step 0 a 1 0"}
        ways = {"road": ("road 0 1",), "lane": ("road 0 1", "lane 1"), "cart": ("road 0 1", "lane 1", "cart b 0 0 1"),
                "step": ("road 0 1", "lane 1", "cart b 0 0 1", "step 0 b 1 0")}
        may = {"road": ("lane",), "lane": ("cart",), "cart": ("cart", "step", "lane"), "step": ("step", "lane")}
        for first, before in ways.items():
            for second, row in rows.items():
                text = "\n".join(before + (row,))
                if second not in may[first]:
                    self.refused(len(before) + 1, "word", text)
                elif second == "lane":
                    self.refused(len(before) + 2, "end", text)
        for row in ("lane 1", "cart a 0 0 1", "step 0 a 1 0", "own 0 0 0", "bridge 1"):
            self.refused(1, "word", row)
        # Behind the last row, too.
        for more in ("", "cart a 0 0 1", "road 0 1", " "):
            self.refused(10, "word", TEXT + "\n" + more)

    def test_counts(self):
        wrong = {"road": (1, 2, 11, 12), "lane": (1, 3), "cart": (1, 2, 3, 4, 6, 8, 10, 12, 13), "step": (1, 4, 6)}
        for at, row in enumerate(TEXT.split("\n")):
            first = row.split(" ")[0]
            for count in wrong[first]:
                self.refused(at + 1, "count", rows_with(at, " ".join([first] + ["1"] * (count - 1))))
                self.refused(at + 1, "count", rows_with(at, " ".join([first] + ["x"] * (count - 1))))

    def test_counts_that_are_right(self):
        for count in range(2, 10):
            road = Road(tuple(range(count)), (SINGLE,))
            self.assertEqual(read_road(road_text(road)), road)
        for wheels in range(1, 5):
            road = Road((0, 1), (Rule((Cart("a", ((0, 1),) * wheels, 0),), ()),))
            self.assertEqual(read_road(road_text(road)), road)

    def test_numbers(self):
        for at, row in enumerate(TEXT.split("\n")):
            words = row.split(" ")
            for place in range(1, len(words)):
                if (words[0], place) in (("cart", 1), ("step", 2)):
                    continue
                for wrong in NO_NUMBERS:
                    text = rows_with(at, " ".join(words[:place] + [wrong] + words[place + 1:]))
                    self.refused(at + 1, "number", text)

    def test_names_are_any_words(self):
        # So it is the cart that refuses them.
        for name in ("7", "Van", "a-b", "\u00e4", "abcdefghijklm", "-0", "a\tb"):
            with self.assertRaises(BadCart) as caught:
                read_road(rows_with(2, f"cart {name} 4 0 2 3 5"))
            self.assertEqual(caught.exception.what, "name")
            with self.assertRaises(BadRule) as caught:
                read_road(rows_with(4, f"step 0 {name} 2 1"))
            self.assertEqual((caught.exception.what, caught.exception.index), ("cart", 0))

    def test_end(self):
        rows = TEXT.split("\n")
        for count in range(1, len(rows) + 1):
            text = "\n".join(rows[:count])
            if rows[count - 1].split(" ")[0] in ("road", "lane"):
                self.refused(count + 1, "end", text)
            else:
                self.assertEqual(road_text(read_road(text)), text)

    def test_the_first_wrong_row(self):
        self.refused(2, "word", "road 0 1\nlanes 1 2\n")
        self.refused(1, "count", "road x\nlane")
        self.refused(1, "number", "road x y\nlane")
        self.refused(9, "number", TEXT.replace("road -3 0 9", "road 9 0 -3").replace("dray 30 0", "dray 30 x"))

    def test_errors_of_the_constructors(self):
        for at, row, kind, what in ((0, "road 0 0 9", BadRoad, "border"), (0, "road 0 201", BadRoad, "long"),
                                    (0, "road 1000001 1000002", BadRoad, "border"),
                                    (1, "lane 0", BadRule, "way"), (6, "lane 2", BadRule, "way"),
                                    (2, "cart van 201 0 2", BadCart, "length"), (2, "cart van 4 5 2", BadCart, "wheel"),
                                    (2, "cart van 4 0 0", BadCart, "wheel"), (3, "cart van 1 1 3", BadRule, "name"),
                                    (4, "step 4 van 2 1", BadRule, "room"), (4, "step 0 van 0 1", BadRule, "gap"),
                                    (4, "step 0 van 2 4", BadRule, "next"), (4, "step 0 van 2 -1", BadRule, "next")):
            with self.assertRaises(kind) as caught:
                read_road(rows_with(at, row))
            self.assertEqual(caught.exception.what, what)
        with self.assertRaises(BadRule) as caught:
            read_road(rows_with(5, "step 0 van 1 0"))
        self.assertEqual((caught.exception.what, caught.exception.index), ("double", 1))

    def test_too_many_rows(self):
        lane = "lane 1\ncart a 0 0 1"
        with self.assertRaises(BadRoad) as caught:
            read_road("\n".join(["road 0 1"] + [lane] * 3))
        self.assertEqual(caught.exception.what, "rules")
        with self.assertRaises(BadRule) as caught:
            read_road("road 0 1\nlane 1\n" + "\n".join(f"cart {name} 0 0 1" for name in "abcde"))
        self.assertEqual((caught.exception.what, caught.exception.index), ("carts", None))
        with self.assertRaises(BadRule) as caught:
            read_road("road 0 1\n" + lane + "\nstep 0 a 1 0" * 17)
        self.assertEqual((caught.exception.what, caught.exception.index), ("steps", None))

    def test_the_order_of_the_constructors(self):
        # The carts of a lane, then its rule, then the next lane, and the road at the end.
        text = "road 0 0\nlane 2\ncart a 0 0 0\nlane 1\ncart B 0 0 1"
        for old, new, kind in (("cart a 0 0 0", "cart a 0 0 1", BadCart), ("lane 2", "lane 1", BadRule),
                               ("cart B", "cart b", BadCart), ("road 0 0", "road 0 1", BadRoad)):
            with self.assertRaises(kind):
                read_road(text)
            text = text.replace(old, new)
        self.assertEqual(road_text(read_road(text)), text)
