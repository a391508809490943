"""[20], [21] sheets."""

import unittest

from tests.helper import BIG, holds_to_point_two
from tinrecall.errors import BadRow, RecallError
from tinrecall.sheet import run

GROUND = """batch abcd 100 line:filler:50:1:10 racks:cooker:60:200-260,240-300
batch wxyz 6
packing north 12 abcd:0-59 wxyz:0-2
packing south 5 wxyz:3-5 abcd:80-99"""


def answers(*rows, ground=GROUND):
    """The answers of some rows behind those of the ground, which are all done."""
    ahead = ground.split("\n") if ground else []
    told = run("\n".join([*ahead, *rows]))
    assert told[:len(ahead)] == ["done"] * len(ahead), told
    return told[len(ahead):]


class AnswersTest(unittest.TestCase):
    def assert_told(self, *pairs, ground=GROUND):
        rows = [row for row, _ in pairs]
        self.assertEqual(answers(*rows, ground=ground), [told for _, told in pairs])

    def test_a_list_of_texts_for_each_row(self):
        told = holds_to_point_two(self, run, GROUND)
        self.assertEqual(told, ["done"] * 4)
        self.assertEqual(run("undo"), ["refused NoDeed"])

    def test_each_deed(self):
        rows = ["batch mm00 3", "batch mm01 3 line:filler:0:0:1",
                "batch mm02 5 racks:pots:2:1-2,0-0,7-9 line:belt:3:4:5",
                "packing west 1 mm00:0-2", "packing east 4 mm02:1-1 mm02:3-4 mm00:2-2",
                "test mm01 2 bad", "test mm01 0 good", "fault filler 0 9", "fault nowhere 5 5",
                "fault pots 0 9 2 0 2 99",
                "say 3 1 pack north 5 mill", "say 3 2 lade mill east north 0 4", "say 4 3 sell east north 1 1",
                "say 4 4 back east north 0 0", "say 5 5 tell east north", "say 5 6 tell east north 0-1 3-3 5-99",
                "unsay 3", "undo"]
        told = answers(*rows)
        self.assertEqual(told, ["done"] * 4 + ["refused Twice"] + ["done"] * 13)

    def test_find(self):
        self.assert_told(("find * 0", "abcd / wxyz"), ("find a?cd 0", "abcd"), ("find abce 0", "-"),
                         ("find abce 1", "abcd"), ("find [aw][bx]** 0", "abcd / wxyz"),
                         ("find ???? 999999999999", "abcd / wxyz"))
        self.assert_told(("find * 0", "-"), ground="")

    def test_suspects(self):
        self.assert_told(
            ("suspects", "refused NoTest"), ("test abcd 20 good", "done"), ("suspects", "refused NoTest"),
            ("test abcd 35 bad", "done"), ("suspects", "filler 53 - 53 53"), ("undo", "done"), ("undo", "done"),
            ("test abcd 70 bad", "done"), ("suspects", "cooker 0 - 300 240 / filler 0 - 57 57"),
            ("test abcd 5 good", "done"), ("suspects", "cooker 261 - 300 261 / filler 51 - 57 57"),
            ("test abcd 85 good", "done"), ("suspects", "filler 51 57 57 57"), ("test wxyz 0 bad", "done"),
            ("suspects", "-"))

    def test_called(self):
        self.assert_told(
            ("called", "-"), ("fault filler 51 52", "done"), ("called", "north 0-2"), ("fault filler 55 55", "done"),
            ("called", "north 0-2,4-4"), ("fault filler 59 70", "done"), ("called", "north 0-2,4-4 / south 2-4"),
            ("test abcd 82 bad", "done"), ("called", "north 0-4 / south 0-4"))

    def test_recall(self):
        self.assert_told(
            ("recall 9", "-"), ("fault filler 51 52", "done"), ("recall 9", "north 3 3 0 0 0 0"),
            ("say 3 1 pack north 6 mill", "done"), ("recall 2", "north 3 3 0 0 0 0"), ("recall 3", "north 3 0 3 0 0 0"),
            ("say 4 2 sell mill north 0 0", "done"), ("say 4 3 back mill north 1 1", "done"),
            ("say 5 4 tell mill north 3-5", "done"), ("recall 4", "north 3 0 1 1 1 0"),
            ("recall 5", "north 3 0 0 1 1 1"),
            ("fault filler 58 58", "done"), ("recall 5", "north 3 0 0 1 1 1 / south 3 3 0 0 0 0"))

    def test_standing(self):
        self.assert_told(
            ("standing 9", "-"), ("say 3 1 pack north 6 mill", "done"), ("say 3 5 pack nuts 2 mill", "done"),
            ("say 4 2 lade mill east north 2 3", "done"), ("standing 2", "-"),
            ("standing 3", "mill north 0-5 / mill nuts 0-1"),
            ("standing 4", "east north 2-3 / mill north 0-1,4-5 / mill nuts 0-1"),
            ("say 5 3 sell mill north 0 9", "done"),
            ("standing 5", "east north 2-3 / mill nuts 0-1"))

    def test_way(self):
        self.assert_told(
            ("say 3 1 pack north 6 mill", "done"), ("say 4 2 lade mill east north 2 3", "done"),
            ("say 5 9 tell east north 3-3", "done"), ("say 6 4 tell west north 2-2", "done"),
            ("say 7 5 sell west north 0 9", "done"), ("say 7 6 back mill north 5 5", "done"),
            # The name, the case, the day.
            ("way north 2 9", "1 packed mill / 2 laded east / 9 lacking east / 4 found west / 5 sold west"),
            ("way north 2 4", "1 packed mill / 2 laded east"), ("way north 5 7", "1 packed mill / 6 back mill"),
            ("way north 6 9", "-"), ("way north 2 2", "-"), ("way nuts 0 9", "-"))

    def test_case(self):
        self.assert_told(
            ("case north 0", "abcd 0-11"), ("case north 4", "abcd 48-59"), ("case north 5", "wxyz 0-2"),
            ("case south 0", "wxyz 3-5 / abcd 80-81"), ("case south 4", "abcd 97-99"),
            ("case south 5", "refused NoCase"),
            ("case nuts 0", "refused NoPacking"), ("case north 999999999999", "refused NoCase"))

    def test_each_refusal_and_the_sheet_goes_on_behind_it(self):
        self.assert_told(
            ("batch abcd 5", "refused Taken"), ("packing north 5 abcd:60-60", "refused Taken"),
            ("packing west 5 none:0-0", "refused NoBatch"), ("packing west 5 abcd:60-100", "refused NoTin"),
            ("packing west 5 abcd:59-60", "refused Twice"), ("packing west 5 abcd:60-60 abcd:60-60", "refused Twice"),
            ("packing west 5 abcd:60-60 abcd:61-61", "done"),
            ("test none 0 bad", "refused NoBatch"), ("test abcd 100 bad", "refused NoTin"),
            ("test abcd 99 bad", "done"),
            ("test abcd 99 good", "refused Taken"), ("say 1 7 pack north 6 mill", "done"),
            ("say 9 7 tell mill north", "refused Taken"), ("unsay 8", "refused NoPage"), ("unsay 7", "done"),
            ("unsay 7", "refused NoPage"), ("undo", "done"), ("undo", "done"),
            ("suspects", "cooker 0 - 300 240 / filler 0 - 59 59"), ("undo", "done"), ("suspects", "refused NoTest"),
            ("case west 1", "refused NoCase"), ("undo", "done"), ("case west 0", "refused NoPacking"),
            *[("undo", "done")] * 4, ("undo", "refused NoDeed"), ("batch abcd 5", "done"), ("find * 0", "abcd"))

    def test_names_and_marks_that_are_words(self):
        told = run("\n".join([
            "batch batch 9 line:line:1:1:1 line:racks:2:1:1", "batch fault 3 racks:line:3:0-9", "batch undo 1",
            "packing packing 2 batch:0-3 fault:0-2", "packing undo 1 batch:4-8", "test batch 0 good", "fault line 2 3",
            "say 1 1 pack undo 5 say", "say 2 2 lade say tell undo 0 2", "say 3 3 tell tell undo 1-1",
            "say 3 4 sell tell back 0 0",
            "called", "recall 9", "standing 9", "way undo 0 9", "case packing 2", "case undo 0", "find batch 0",
            "find undo 0"]))
        self.assertEqual(told, ["done"] * 11 + [
            "packing 0-3", "packing 4 4 0 0 0 0", "say undo 3-4 / tell undo 1-1",
            "1 packed say / 2 laded tell / 3 lacking tell", "fault 0-1", "batch 4-4", "batch", "undo"])

    def test_great_numbers(self):
        most = "9" * 12
        told = run("\n".join([
            f"batch abcd {most} line:filler:{most}:{most}:1 racks:pots:{most}:0-{most}",
            f"packing north 1 abcd:0-{int(most) - 1}", f"packing south {most} abcd:0-0", f"fault filler {most} {most}",
            f"say {most} {most} pack north {most} mill", f"say {most} 0 sell mill north 0 {most}", "called",
            f"recall {most}", f"standing {most}", f"way north 1 {most}", f"case north {int(most) - 1}",
            "test abcd 1 bad",
            "suspects", f"unsay {most}", f"find abcd {most}"]))
        self.assertEqual(told, [
            "done", "done", "refused Twice", "done", "done", "done", "north 0-0", "north 1 0 1 0 0 0",
            f"mill north 0-{int(most) - 1}", f"{most} packed mill", f"abcd {int(most) - 1}-{int(most) - 1}", "done",
            f"filler 0 - {2 * int(most)} {2 * int(most)} / pots 0 - {most} 0", "done", "abcd"])

    def test_rows_of_two_hundred_and_forty_signs_and_sheets_of_sixty_rows(self):
        stretches = " ".join(f"{3 * k}-{3 * k + 1}" for k in range(30))
        row = "say 1 1 tell mill north " + stretches
        self.assertLessEqual(len(row), 240)
        stays = ",".join(f"{100 * k}-{100 * k + 99}" for k in range(12))
        batch = f"batch abcd 12 racks:cooker:1:{stays} line:a:1:2:3 line:b:1:2:3 line:c:1:2:3 line:d:1:2:3 line:e:1:2:3"
        self.assertLessEqual(len(batch), 240)
        packing = "packing north 1 " + " ".join(f"abcd:{k}-{k}" for k in range(12))
        fault = "fault cooker 0 999999999999 0 1 2 3 4 5 6 7 8 9 10 11"
        rows = [row, batch, packing, fault, "say 0 2 pack north 12 mill"]
        rows += [f"say {2 + k} {3 + k} sell mill north {k % 12} {k % 12}" for k in range(53)]
        rows += ["recall 1", "find " + "*?" * 116 + "* 0"]
        self.assertEqual(len(rows), 60)
        told = run("\n".join(rows))
        self.assertEqual(told, ["done"] * 58 + ["north 12 0 8 0 0 4", "-"])

    def test_asked_again_and_by_turns_the_same(self):
        one = GROUND + "\nfault filler 51 52\ncalled\nundo\ncalled"
        other = "batch abcd 3\nfind * 0\nundo\nundo"
        for _ in range(3):
            self.assertEqual(run(one)[4:], ["done", "north 0-2", "done", "-"])
            self.assertEqual(run(other), ["done", "abcd", "done", "refused NoDeed"])


def changed(row, changes):
    """The row with each change (old, new) made to it by itself."""
    return [row.replace(old, new, 1) for old, new in changes]


GOOD_ROWS = [
    "batch abcd 5", "batch a1b2c3d4e5 5 line:filler:0:0:1", "batch abcd 5 racks:pots:2:0-0,1-9,3-3",
    "packing north 5 abcd:0-0", "test abcd 0 bad", "test abcd 0 good", "fault pots 0 0", "fault pots 3 9 0 0 7",
    "say 0 0 pack north 5 mill", "say 9 8 lade mill mill north 0 0", "say 1 2 sell mill north 3 9",
    "say 1 2 back mill north 3 9", "say 1 2 tell mill north", "say 1 2 tell mill north 0-0 2-2", "unsay 0", "undo",
    "find a 0", "find *?[ab]c 7", "suspects", "called", "recall 0", "standing 0", "way north 0 0", "case north 0",
]
NUMBERS_NOT_SO = ["00", "01", "-1", "+1", "1234567890123", "0000000000001", "1.0", "1e3", "0x1", "a", "1z", "\u0663",
                  "\u00b2", "1_0",
                  "\u0967", "\uff11"]
NAMES_NOT_SO = ["abcdefghi", "Abc", "a1", "a-b", "a_b", "caf\u00e9", "abC", "?", "1", "0"]
MARKS_NOT_SO = ["abc", "a", "abcdefghijk", "abcD", "ab d", "ab-d", "ab?d", "abc\u0663", "abc\u00e9", "ab:cd"]
READINGS_NOT_SO = ["[a]", "[aa]", "[]", "[abcdefg]", "[ab", "ab]", "A", "a-b", "a[b?]", "[a*]", "[[ab]]", ".", "\u00e9",
                   "a,b", "[ab]]"]


class BadRowTest(unittest.TestCase):
    def assert_bad(self, row):
        """A row not so written is refused, wherever it stands, by its number, ahead of all answers."""
        sheets = [(row, 0), (row + "\nundo", 0), (GROUND + "\n" + row, 4), (GROUND + "\n" + row + "\nundo\n\nso", 4)]
        for sheet, at in sheets:
            with self.assertRaises(RecallError, msg=repr(row)) as caught:
                run(sheet)
            self.assertIs(type(caught.exception), BadRow)
            self.assertEqual(caught.exception.row, at, repr(row))

    def test_the_good_rows(self):
        for row in GOOD_ROWS:
            with self.subTest(row):
                self.assertEqual(len(run(row)), 1)

    def test_the_number_of_the_first_one(self):
        rows = [f"find a{k % 10} 0" for k in range(60)]
        for at in (0, 1, 30, 58, 59):
            for behind in (59, at):
                wrong = list(rows)
                wrong[at], wrong[behind] = "no row", "neither"
                with self.assertRaises(BadRow) as caught:
                    run("\n".join(wrong))
                self.assertEqual(caught.exception.row, at)

    def test_ahead_of_all_answers(self):
        # Refused deeds and asks ahead of it are not come to.
        with self.assertRaises(BadRow) as caught:
            run("undo\nsuspects\ncase north 0\nundo \nundo")
        self.assertEqual(caught.exception.row, 3)

    def test_empty_text_and_empty_rows(self):
        for text, at in [("", 0), ("\n", 0), ("undo\n", 1), ("\nundo", 0), ("undo\n\nundo", 1), ("undo\nundo\n", 2),
                         ("undo\n\n", 1)]:
            with self.subTest(repr(text)):
                with self.assertRaises(BadRow) as caught:
                    run(text)
                self.assertEqual(caught.exception.row, at)

    def test_blanks_and_other_signs(self):
        for row in GOOD_ROWS:
            self.assert_bad(" " + row)
            self.assert_bad(row + " ")
            self.assert_bad(row + "\t")
            self.assert_bad(row + "\r")
            self.assert_bad(row + "\u2028")
            self.assert_bad(row.upper())
            self.assert_bad("\ufeff" + row)
            for at, sign in enumerate(row):
                if sign == " ":
                    self.assert_bad(row[:at] + " " + row[at:])
                    self.assert_bad(row[:at] + "\t" + row[at + 1:])
                    self.assert_bad(row[:at] + "\u00a0" + row[at + 1:])
        for row in (" ", "  ", "\t", "-", "done", "known 0 0", "heap", "suspected", "batches", "late", "tins north 0",
                    "#"):
            self.assert_bad(row)

    def test_a_word_too_few_or_too_many(self):
        may_end = {"batch a1b2c3d4e5 5 line:filler:0:0:1", "batch abcd 5 racks:pots:2:0-0,1-9,3-3",
                   "fault pots 3 9 0 0 7",
                   "say 1 2 tell mill north 0-0 2-2"}
        for row in GOOD_ROWS:
            words = row.split(" ")
            if row not in may_end:
                self.assert_bad(" ".join(words[:-1]))
            self.assert_bad(row + " x1")
            if words[0] not in ("fault",) and "tell" not in words:
                self.assert_bad(row + " 0")
                self.assert_bad(row + " 7-8")
        self.assert_bad("undo undo")
        self.assert_bad("packing north 5")
        self.assert_bad("fault pots 3")
        self.assert_bad("say")
        self.assert_bad("say 1 2")
        self.assert_bad("say 1 pack north 5 mill")
        self.assert_bad("say 1 2 3 pack north 5 mill")

    def test_none_where_they_may_be_none(self):
        told = answers("batch mm00 5", "fault filler 0 0", "say 1 2 tell mill north", "say 0 1 pack north 5 mill",
                       "recall 1")
        self.assertEqual(told, ["done"] * 4 + ["-"])
        self.assert_bad("batch mm00 5 racks:pots:2:")
        self.assert_bad("batch mm00 5 racks:pots:2")
        self.assert_bad("find 0")

    def test_numbers(self):
        for word in NUMBERS_NOT_SO:
            for row in ["batch abcd N", "batch abcd 5 line:a:N:1:1", "batch abcd 5 line:a:1:N:1",
                        "batch abcd 5 line:a:1:1:N",
                        "batch abcd 5 racks:a:N:0-9999", "batch abcd 1 racks:a:1:N-9999", "batch abcd 1 racks:a:1:0-N",
                        "packing north N abcd:0-0", "packing north 1 abcd:N-9999", "packing north 1 abcd:0-N",
                        "test abcd N bad", "fault a N 9999", "fault a 0 N", "fault a 0 0 N", "fault a 0 0 1 N",
                        "say N 0 pack north 5 mill", "say 0 N pack north 5 mill", "say 0 0 pack north N mill",
                        "say 0 0 lade a b north N 9999", "say 0 0 lade a b north 0 N", "say 0 0 sell a north N 9999",
                        "say 0 0 sell a north 0 N", "say 0 0 back a north N 9999", "say 0 0 back a north 0 N",
                        "say 0 0 tell a north N-9999", "say 0 0 tell a north 0-N", "say 0 0 tell a north N", "unsay N",
                        "find a N", "recall N", "standing N", "way north N 0", "way north 0 N", "case north N"]:
                self.assert_bad(row.replace("N", word))
        told = run("batch abcd 999999999999 line:a:999999999999:0:100000000000\nunsay 100000000000\n"
                   "recall 999999999999")
        self.assertEqual(told, ["done", "refused NoPage", "-"])

    def test_names_and_marks(self):
        for word in NAMES_NOT_SO:
            for row in ["batch abcd 5 line:N:1:1:1", "batch abcd 5 racks:N:5:0-9", "packing N 1 abcd:0-0",
                        "fault N 0 9",
                        "say 0 0 pack N 5 mill", "say 0 0 pack north 5 N", "say 0 0 lade N b north 0 1",
                        "say 0 0 lade a N north 0 1", "say 0 0 lade a b N 0 1", "say 0 0 sell N north 0 1",
                        "say 0 0 sell a N 0 1", "say 0 0 back N north 0 1", "say 0 0 back a N 0 1",
                        "say 0 0 tell N north 0-1", "say 0 0 tell a N 0-1", "way N 0 0", "case N 0"]:
                self.assert_bad(row.replace("N", word))
        # None at all, though the words ahead of it and behind it stand as they must.
        for row in ["batch abcd 5 line::1:1:1", "batch abcd 5 racks::5:0-9", "packing  1 abcd:0-0", "fault  0 9",
                    "say 0 0 pack  5 mill", "say 0 0 pack north 5 ", "say 0 0 lade  b north 0 1",
                    "say 0 0 lade a b  0 1",
                    "say 0 0 sell  north 0 1", "say 0 0 back a  0 1", "say 0 0 tell  north", "say 0 0 tell a ",
                    "way  0 0", "case  0", "batch  5", "test  0 bad", "packing north 1 :0-0", "find  0"]:
            self.assert_bad(row)
        for word in MARKS_NOT_SO:
            for row in ["batch M 5", "packing north 1 M:0-0", "packing north 1 abcd:0-0 M:0-0", "test M 0 bad"]:
                self.assert_bad(row.replace("M", word))
        told = run("batch abcdefghij 5\nbatch 0000 1\nbatch 12ab 1\npacking abcdefgh 1 0000:0-0\nfault a 0 0\n"
                   "fault abcdefgh 0 0")
        self.assertEqual(told, ["done"] * 6)

    def test_readings(self):
        for word in READINGS_NOT_SO:
            self.assert_bad(f"find {word} 0")
        self.assert_bad("find a b 0")

    def test_words_of_choice(self):
        for row in ["test abcd 0 worse", "test abcd 0 Bad", "test abcd 0 goodbad", "test abcd 0 0", "test abcd 0 done",
                    "say 0 0 load a b north 0 1", "say 0 0 packing north 5 mill", "say 0 0 undo",
                    "say 0 0 said a north 0 1",
                    "batch abcd 5 rack:a:5:0-9", "batch abcd 5 lines:a:1:1:1", "batch abcd 5 a:1:1:1",
                    "batch abcd 5 line",
                    "batch abcd 5 :", "say undo", "asks"]:
            self.assert_bad(row)

    def test_parts_of_words(self):
        for row in changed("batch abcd 5 line:filler:0:0:1", [
                (":1", ""), (":1", ":1:1"), ("line:", "line::"), (":filler", ""), ("line:", "line-"), (":1", ":1:"),
                (":0:", ":0,"), ("line:", "line:line:"), (":0", ":0-0"), ("line", "")]):
            self.assert_bad(row)
        for row in changed("batch abcd 5 racks:pots:2:0-0,1-9,3-3", [
                ("0-0", "0"), ("0-0", "0-0-0"), ("0-0", "-0"), ("0-0", "0-"), ("0-0", "0--0"), (",", ",,"), (",", ";"),
                (",", ":"), ("3-3", "3-3,"), ("3-3", "3-3:1"), (":0", ":,0"), (":2", ""), (":2", ":2:2"),
                ("0-0", "0:0"),
                (",", "-"), ("3-3", "")]):
            self.assert_bad(row)
        for row in changed("packing north 5 abcd:0-0", [
                (":", ""), (":", "::"), (":", "-"), ("0-0", "0"), ("0-0", "0-0-0"), ("0-0", "0:0"), ("0-0", "0-0:"),
                ("0-0", "0-0,1-1"), ("abcd:", ""), ("abcd", ""), (":", ",")]):
            self.assert_bad(row)
        for row in changed("say 1 2 tell mill north 0-0 2-2", [
                ("0-0 ", "0-0,"), ("0-0", "0"), ("0-0", "0-"), ("0-0", "-0"), ("0-0", "0-0-0"), ("0-0", "0:0"),
                ("0-0", "-")]):
            self.assert_bad(row)

    def test_first_above_last(self):
        for row in ["batch abcd 1 racks:pots:1:5-4", "batch abcd 3 racks:pots:1:0-1,5-4,0-0",
                    "packing north 1 abcd:1-0",
                    "packing north 1 abcd:0-0 abcd:10-9", "fault pots 1 0", "fault pots 10 9 0 1",
                    "say 0 0 lade a b north 1 0",
                    "say 0 0 sell a north 10 9", "say 0 0 back a north 100 99", "say 0 0 tell a north 1-0",
                    "say 0 0 tell a north 0-1 4-3"]:
            self.assert_bad(row)

    def test_nought_where_it_must_be_above(self):
        for row in ["batch abcd 0", "batch abcd 0 line:a:0:0:1", "batch abcd 5 line:a:0:0:0",
                    "batch abcd 5 racks:a:0:0-9",
                    "packing north 0 abcd:0-0", "say 0 0 pack north 0 mill"]:
            self.assert_bad(row)

    def test_stays_fewer_or_more_than_racks(self):
        for tins, per, racks in [(1, 1, 1), (5, 5, 1), (5, 6, 1), (5, 4, 2), (6, 3, 2), (7, 3, 3), (12, 1, 12),
                                 (120, 10, 12),
                                 (111, 10, 12), (999999999999, 100000000000, 10), (1, 999999999999, 1)]:
            for many in range(14):
                row = f"batch abcd {tins} racks:pots:{per}:" + ",".join(["3-5"] * many)
                if many == racks:
                    self.assertEqual(run(row), ["done"])
                else:
                    self.assert_bad(row)
        # In any order of time, and alike.
        self.assertEqual(run("batch abcd 4 racks:pots:1:9-9,0-5,3-20,9-9"), ["done"])

    def test_a_place_twice(self):
        for row in ["batch abcd 5 line:a:0:0:1 line:a:0:0:1", "batch abcd 5 line:a:0:0:1 racks:a:5:0-9",
                    "batch abcd 5 line:b:0:0:1 line:a:0:0:1 line:c:0:0:1 line:b:5:5:5",
                    "batch abcd 5 racks:a:5:0-9 racks:a:3:0-9,0-9"]:
            self.assert_bad(row)

    def test_too_many(self):
        passes = [f"line:{sign}:0:0:1" for sign in "abcdefg"]
        self.assertEqual(run("batch abcd 5 " + " ".join(passes[:6])), ["done"])
        self.assert_bad("batch abcd 5 " + " ".join(passes))
        self.assert_bad("batch abcd 5 " + " ".join([*passes[:6], "racks:z:5:0-1"]))
        # Thirteen racks of a pass, with a stay for each.
        self.assertEqual(run("batch abcd 12 racks:a:1:" + ",".join(["0-1"] * 12)), ["done"])
        self.assert_bad("batch abcd 13 racks:a:1:" + ",".join(["0-1"] * 13))
        self.assert_bad("batch abcd 25 racks:a:2:" + ",".join(["0-1"] * 13))
        self.assertEqual(run("fault a 0 0 " + " ".join(["1"] * 12)), ["done"])
        self.assert_bad("fault a 0 0 " + " ".join(["1"] * 13))
        parts = [f"abcd:{k}-{k}" for k in range(13)]
        self.assertEqual(answers("packing west 1 " + " ".join(parts[:12]), ground="batch abcd 20"), ["done"])
        self.assert_bad("packing west 1 " + " ".join(parts))
        self.assert_bad("packing west 1 " + " ".join(["abcd:0-0"] * 13))

    def test_sets(self):
        head = "say 0 0 tell a north "
        for good in ["0-0", "0-0 2-2", "0-5 7-7 9-20", "3-9 11-999999999999"]:
            self.assertEqual(run(head + good), ["done"])
        for bad in ["0-0 1-1", "0-5 6-9", "0-5 5-9", "0-5 3-9", "0-9 3-4", "0-0 0-0", "5-5 0-0", "7-9 0-3",
                    "0-1 5-6 3-3",
                    "0-1 3-4 5-5", "9-9 11-11 10-10", "2-1", "0-3 2-1"]:
            self.assert_bad(head + bad)

    def test_numbers_may_be_as_great_as_figures_let(self):
        self.assertGreater(BIG, 10 ** 12)
        self.assert_bad(f"recall {BIG}")
        self.assert_bad("recall 1000000000000")
        self.assertEqual(run("recall 999999999999"), ["-"])


if __name__ == "__main__":
    unittest.main()
