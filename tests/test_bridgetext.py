import random
import unittest

from fourhinges.bridge import Bridge
from fourhinges.bridgetext import bridge_text, read_bridge, work_table
from fourhinges.errors import BadBridge, BadRow, OtherSize
from fourhinges.forces import Force
from fourhinges.loads import Load
from fourhinges.mechanisms import mechanisms
from fourhinges.weights import work
from tests.samples import E, F, HUGE, WALL, arch, random_bridges, random_load

TEXT = "bridge 2\njoint 0 0 0 2\njoint 8 -1 8 2\njoint 16 0 16 2\nown 1 -2 3\nown 0 0 -45"

# None of these is written as `str` writes a whole number.
NO_NUMBERS = ("+1", "01", "-0", "00", "-01", "--1", "1-", "-", "1.0", "1e3", "0x1", "1_0", "one", "\u0661", "\u00b2", "\uff11",
              "1\t", "\t1", "1\r", "1\u00a0", "\u22121", "1" * 301, "-" + "1" * 301, "9" * 301)


class TextCase(unittest.TestCase):
    read = None

    def refused(self, row, what, text):
        with self.subTest(text=text), self.assertRaises(BadRow) as caught:
            self.read(text)
        self.assertEqual((caught.exception.row, caught.exception.what), (row, what))

    def check_spaces(self, text):
        """Each row with one space too many, and with other signs between its words."""
        rows = text.split("\n")
        for at, row in enumerate(rows):
            words = row.split(" ")
            for wrong in (" " + row, row + " ", row.replace(" ", "  ", 1), "", " ", "  ", words[0] + " "):
                self.refused(at + 1, "word", "\n".join(rows[:at] + [wrong] + rows[at + 1:]))
            for sign in ("\t", ",", "\u00a0", "\x0b", "\u2003", "\x1c", "\r"):
                self.refused(at + 1, "word", "\n".join(rows[:at] + [sign.join(words)] + rows[at + 1:]))
            for wrong in (words[0].upper(), words[0] + "s", words[0][1:], "\ufeff" + words[0], words[-1]):
                self.refused(at + 1, "word", "\n".join(rows[:at] + [" ".join([wrong] + words[1:])] + rows[at + 1:]))


class BridgeTextTest(TextCase):
    def read(self, text):
        return read_bridge(text)

    def test_there_and_back(self):
        for bridge in [E, F, WALL, arch(8)] + random_bridges(450, 60, 8):
            text = bridge_text(bridge)
            self.assertIsInstance(text, str)
            self.assertEqual(read_bridge(text), bridge)
            self.assertEqual(bridge_text(read_bridge(text)), text)
            rows = text.split("\n")
            self.assertEqual([row.split(" ")[0] for row in rows],
                             ["bridge"] + ["joint"] * (bridge.stones + 1) + ["own"] * bridge.stones)

    def test_example(self):
        self.assertEqual(bridge_text(WALL), "bridge 1\njoint 0 0 0 2\njoint 8 0 8 2\nown 0 0 0")
        self.refused(3, "end", "bridge 1\njoint 0 0 0 2")

    def test_words(self):
        bridge = Bridge([((0, 0), (0, 2)), ((8, -1), (8, 2)), ((16, 0), (16, 2))],
                        Load([Force(1, -2, 3), Force(0, 0, -45)]))
        self.assertEqual(bridge_text(bridge), TEXT)
        self.assertEqual(read_bridge(TEXT), bridge)

    def test_great_numbers(self):
        great = 10 ** 299 + 7
        bridge = WALL.with_own(Load([Force(great, -great, 10 ** 300 - 1)]))
        self.assertEqual(read_bridge(bridge_text(bridge)), bridge)
        for digits, is_right in ((300, True), (301, False)):
            for sign in ("", "-"):
                text = f"bridge 1\njoint 0 0 0 2\njoint 8 0 8 2\nown 0 {sign}{'7' * digits} 0"
                if is_right:
                    self.assertEqual(read_bridge(text).own[0].up, int(sign + "7" * 300))
                else:
                    self.refused(4, "number", text)

    def test_spaces_and_words(self):
        self.check_spaces(TEXT)
        self.refused(1, "word", "")
        self.refused(1, "word", "\n" + TEXT)
        self.refused(1, "word", "stones 2")
        # A row of another kind.
        rows = TEXT.split("\n")
        for at, row in enumerate(rows):
            for other in ("bridge 2", "joint 0 0 0 2", "own 1 2 3", "lane 1", "2"):
                if other.split(" ")[0] != row.split(" ")[0]:
                    self.refused(at + 1, "word", "\n".join(rows[:at] + [other] + rows[at + 1:]))

    def test_rows_behind_the_last_one(self):
        for more in ("", "own 0 0 0", "joint 0 0 0 1", " ", "x", "bridge 1"):
            self.refused(7, "word", TEXT + "\n" + more)
        self.refused(7, "word", TEXT + "\n\n\n")
        for stones in range(1, 9):
            text = bridge_text(arch(stones))
            self.assertEqual(read_bridge(text), arch(stones))
            self.refused(2 * stones + 3, "word", text + "\nown 0 0 0")
            self.refused(2 * stones + 2, "end", text[:text.rindex("\n")])

    def test_counts(self):
        rows = TEXT.split("\n")
        for at, row in enumerate(rows):
            words = row.split(" ")
            for wrong in (words[:1], words[:-1], words + ["0"], words + ["x"], words + words[1:]):
                self.refused(at + 1, "count", "\n".join(rows[:at] + [" ".join(wrong)] + rows[at + 1:]))

    def test_numbers(self):
        rows = TEXT.split("\n")
        for at, row in enumerate(rows):
            words = row.split(" ")
            for place in range(1, len(words)):
                for wrong in NO_NUMBERS:
                    changed = words[:place] + [wrong] + words[place + 1:]
                    self.refused(at + 1, "number", "\n".join(rows[:at] + [" ".join(changed)] + rows[at + 1:]))
        for count in ("0", "-1", "9", "10", "300", "1" * 300):
            self.refused(1, "number", TEXT.replace("bridge 2", f"bridge {count}"))

    def test_end(self):
        rows = TEXT.split("\n")
        for count in range(1, len(rows)):
            self.refused(count + 1, "end", "\n".join(rows[:count]))
        self.refused(2, "end", "bridge 8")
        self.refused(7, "end", TEXT.replace("bridge 2", "bridge 3").replace("own 1 -2 3", "joint 9 9 9 8"))

    def test_the_first_wrong_row(self):
        self.refused(2, "number", "bridge 2\njoint 0 0 0 x\n")
        self.refused(2, "count", "bridge 2\njoint x\nown")
        self.refused(2, "word", "bridge 2\nown x \njoint")
        self.refused(1, "number", "bridge 0\nx")
        self.refused(1, "count", "bridge x y\nx")
        # A wrong row comes before the errors of the bridge.
        self.refused(6, "number", TEXT.replace("joint 0 0 0 2", "joint 0 0 0 0").replace("-45", "x"))
        self.refused(6, "end", TEXT.replace("joint 0 0 0 2", "joint 0 0 0 0")[:TEXT.rindex("\n")])

    def test_errors_of_the_bridge(self):
        for old, new, what, joint in (("joint 0 0 0 2", "joint 5 5 5 5", "same", 0),
                                      ("joint 8 -1 8 2", "joint 8 -1 1000001 2", "corner", 1),
                                      ("joint 16 0 16 2", f"joint {HUGE} 0 16 2", "corner", 2)):
            with self.assertRaises(BadBridge) as caught:
                read_bridge(TEXT.replace(old, new))
            self.assertEqual((caught.exception.what, caught.exception.joint), (what, joint))


class WorkTableTest(unittest.TestCase):
    def check(self, bridge, load=None):
        table = work_table(bridge, load)
        wanted = []
        for one in mechanisms(bridge):
            hinges, amount = ",".join(map(str, one.hinges)), str(work(bridge, one, load))
            wanted.append(hinges + " " * (12 - len(hinges)) + " " * (14 - len(amount)) + amount)
        self.assertEqual(table, "\n".join(wanted))
        return table

    def test_example(self):
        self.assertEqual(self.check(E).split("\n")[3], "0,3,4,7                -16")
        self.assertEqual(len(self.check(E).split("\n")), 14)
        self.assertEqual(self.check(E, Load.single(3, 0, Force.hanging(8, 4))).split("\n")[3],
                         "0,3,4,7                 16")

    def test_random(self):
        rng = random.Random(451)
        for bridge in random_bridges(452, 20, 5):
            self.check(bridge)
            self.check(bridge, random_load(rng, bridge.stones))

    def test_no_mechanisms(self):
        self.assertEqual(work_table(WALL), "")
        self.assertEqual(work_table(WALL, Load.none(1)), "")

    def test_what_is_longer_is_not_cut(self):
        long = [row for row in self.check(arch(8)).split("\n") if row.split(" ")[0].count(",") == 3 and len(row) > 20]
        self.assertIn(26, {len(row) for row in long})
        shared = Bridge([((at, 0), (at, 9 + at % 2)) for at in range(9)], Load([Force.hanging(10 ** 20, at) for at in range(8)]))
        rows = self.check(shared).split("\n") if list(mechanisms(shared)) else []
        great = self.check(E.with_own(E.own * 10 ** 30)).split("\n")
        self.assertEqual(great[3], "0,3,4,7     -16" + "0" * 30)
        self.assertTrue(all(len(row) >= 26 for row in rows + great))
        # Thirteen letters of hinges: 10,13,14,17 has eleven, so the widest column is never too narrow.
        self.assertLessEqual(max(len(row.split(" ")[0]) for row in self.check(arch(8)).split("\n")), 12)

    def test_other_size(self):
        for load in (Load.none(2), Load.none(4)):
            with self.assertRaises(OtherSize):
                work_table(E, load)
        with self.assertRaises(OtherSize):
            work_table(WALL, Load.none(2))
