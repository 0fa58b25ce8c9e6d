"""[0.2], [0.5], [11.3] to [11.5] and the interface's guessroom/sitting.py."""

import random
import unittest

from guessroom.asker import Asker
from guessroom.errors import NoText
from guessroom.least import least
from guessroom.notes import house_text, read_word, word_text
from guessroom.papers import at_least, judged, paper_of
from guessroom.sitting import followed, paper_behind, sitting
from guessroom.telling import difference
from hunts import long_objection, scattered
from refusals import RefusalTest
from samples import (
    TOP, all_houses, answer, chain, pairs_told_apart, random_house, random_houses, ring,
)

TWO = (1, (0, 7), ((1,), (0,)))
LOG = "sitting 1 2\nask . 0\nask a 7\nask aa 0\nagree\n"
SPENT = "sitting 1 1\nask . 0\nask a 7\nspent a\n"
OBJECT = "sitting 1 3\nask . 0\nask a 0\nobject aa 1\n"


def log_by_hand(house, most, objection=difference):
    """The log, and the asker behind it."""
    asker = Asker(house[0], most)
    rows = [f"sitting {house[0]} {most}\n"]
    while asker.wants()[0] in ("ask", "show"):
        kind, thing = asker.wants()
        word = thing if kind == "ask" else objection(house, thing)
        if word is None:
            asker.agree()
            rows.append("agree\n")
            continue
        mark = answer(house, word)
        name = "".join("abcdef"[letter] for letter in word) or "."
        if kind == "ask":
            asker.hear(mark)
            rows.append(f"ask {name} {mark}\n")
        else:
            asker.differ(word, mark)
            rows.append(f"object {name} {mark}\n")
    if asker.wants()[0] == "spent":
        word = asker.wants()[1]
        rows.append("spent " + ("".join("abcdef"[letter] for letter in word) or ".") + "\n")
    return "".join(rows), asker


class SittingTest(RefusalTest):
    def check(self, house, most):
        text = house_text(house)
        log = sitting(text, most)
        due, asker = log_by_hand(house, most)
        self.assertEqual(log, due)
        wish = asker.wants()
        self.assertEqual(followed(log), wish)
        self.assertIs(type(followed(log)), tuple)
        self.assertEqual(paper_behind(log), paper_of(asker))
        rooms = len(least(house)[1])
        if rooms <= most:
            self.assertEqual(wish[0], "done")
            self.assertNotIn((0, 0), pairs_told_apart(wish[1], house))
            self.assertEqual(judged(paper_behind(log)), wish[1])
        else:
            self.assertEqual(wish[0], "spent")
            self.assertEqual(at_least(paper_behind(log)), most + 1)

    def test_by_hand(self):
        self.assertEqual(sitting(house_text(TWO), 2), LOG)
        self.assertEqual(sitting(house_text(TWO), 1), SPENT)
        self.assertEqual(followed(LOG), ("done", TWO))
        self.assertEqual(followed(SPENT), ("spent", (0,)))
        self.assertEqual(
            paper_behind(LOG), (1, ((), (0,)), ((),), (((), 0), ((0,), 7), ((0, 0), 0)))
        )
        self.assertEqual(paper_behind(SPENT), (1, ((), (0,)), ((),), (((), 0), ((0,), 7))))

    def test_an_objection_by_hand(self):
        log = sitting(house_text(chain(1, 3)), 3)
        self.assertTrue(log.startswith(OBJECT))
        self.assertTrue(log.endswith("\nagree\n"))

    def test_small_houses(self):
        for letters, rooms in ((1, 1), (1, 2), (2, 2)):
            for house in all_houses(letters, rooms, (0, 1)):
                for most in (1, 2):
                    self.check(house, most)

    def test_chance_houses(self):
        for house in random_houses(411, 30, 6, 12, (0, 1, TOP)):
            for most in (1, 2, 6, 12):
                self.check(house, most)

    def test_as_many_rooms_as_most_and_one_more(self):
        for most in (1, 2, 11, 12):
            for letters in (1, 6):
                for rooms in (most, most + 1):
                    self.check(chain(letters, rooms), most)
                    self.check(ring(letters, rooms, (TOP,) + (0,) * (rooms - 1)), most)

    def test_forty_rooms(self):
        for letters in (1, 6):
            for most in (1, 12):
                self.check(random_house(random.Random(412), letters, 40), most)

    def test_texts_that_write_no_house(self):
        text = house_text(TWO)
        for wrong in (
            "", "\n", "house 1\n", text[:-1], text + "\n", "house 0\nroom 0\n", text + " ",
            text.replace("room 7 0", "room 7 2"), text.replace("house", "hose"),
            text.replace("room 7 0", "room 07 0"), text.replace("7", str(TOP + 1)), LOG,
        ):
            for most in (1, 12):
                self.assert_refused(NoText, sitting, wrong, most)


class FollowedTest(RefusalTest):
    def refused(self, log):
        self.assert_refused(NoText, followed, log)
        self.assert_refused(NoText, paper_behind, log)

    def test_the_logs_themselves_are_good(self):
        self.assertEqual(followed(LOG)[0], "done")
        self.assertEqual(followed(SPENT)[0], "spent")

    def test_other_objections_than_the_least(self):
        for house in random_houses(421, 20, 3, 8):
            for most in (3, 12):
                log, asker = log_by_hand(house, most, long_objection(400))
                self.assertEqual(followed(log), asker.wants())
                self.assertEqual(paper_behind(log), paper_of(asker))

    def test_a_wrong_house_agreed_to(self):
        log = "sitting 1 3\nask . 0\nask a 0\nagree\n"
        self.assertEqual(followed(log), ("done", (1, (0,), ((0,),))))
        self.assertEqual(paper_behind(log), (1, ((),), ((),), (((), 0), ((0,), 0))))

    def test_marks_that_no_house_answers(self):
        asker = Asker(2, 12)
        rows = ["sitting 2 12\n"]
        while asker.wants()[0] == "ask":
            word = asker.wants()[1]
            mark = scattered(word, TOP)
            rows.append(f"ask {word_text(word)} {mark}\n")
            asker.hear(mark)
        self.assertEqual(asker.wants()[0], "spent")
        log = "".join(rows) + f"spent {word_text(asker.wants()[1])}\n"
        self.assertEqual(followed(log), asker.wants())
        self.assertEqual(at_least(paper_behind(log)), 13)

    def test_a_log_that_breaks_off(self):
        for log in (LOG, SPENT, sitting(house_text(chain(2, 4)), 4)):
            rows = log.splitlines(keepends=True)
            for count in range(len(rows)):
                self.refused("".join(rows[:count]))
            for count in range(1, len(log)):
                self.refused(log[:count])

    def test_without_its_last_line_feed(self):
        self.refused(LOG[:-1])
        self.refused(SPENT[:-1])
        self.refused("sitting 1 2")

    def test_rows_behind_the_end(self):
        for log in (LOG, SPENT):
            for row in ("\n", "agree\n", "ask . 0\n", "ask aaa 0\n", "object a 1\n", "spent a\n",
                        "spent aa\n", " \n", "sitting 1 2\n", "agree"):
                self.refused(log + row)

    def test_rows_in_another_order_or_twice_or_not_there(self):
        for log in (LOG, SPENT, sitting(house_text(chain(2, 4)), 4)):
            rows = log.splitlines(keepends=True)
            for place in range(len(rows)):
                self.refused("".join(rows[:place] + rows[place + 1:]))
                self.refused("".join(rows[:place] + [rows[place]] * 2 + rows[place + 1:]))
                self.refused("".join(rows[:place] + ["\n"] + rows[place:]))
            self.refused("".join(rows[1:] + rows[:1]))

    def test_a_row_that_asks_another_word(self):
        for wrong in ("aa", "b", ".", "aaa", "", "A", "0"):
            self.refused(LOG.replace("ask a 7", f"ask {wrong} 7"))
        for wrong in ("a", "b", "", ".."):
            self.refused(LOG.replace("ask . 0", f"ask {wrong} 0"))

    def test_a_row_that_the_asker_refuses(self):
        good = sitting(house_text(chain(1, 3)), 3)
        self.assertEqual(followed(good)[0], "done")
        for wrong in (
            "object aa 0", "object a 1", "object . 3", "object b 1", "object ab 1", "object A 1",
            f"object aa {TOP + 1}", f"object aa {10 ** 30}", "object aa -1", "object aa", "object",
            "object aa 1 1", "object  aa 1", "object aa  1", "object aa 1 ", "object aa 01",
            "object aa +1", "object aa x", "objects aa 1", "ask aa 1", "hear 1", "agree ", "Agree",
            "spent a", "", " ", " object aa 1", "object aa 1\r",
        ):
            self.refused(good.replace("object aa 1", wrong))
        for wrong in (TOP + 1, -1, "07", "00", "+7", "7.", "", "x", "1" * 5000):
            self.refused(LOG.replace("ask a 7", f"ask a {wrong}"))

    def test_agreeing_where_it_asks(self):
        self.refused("sitting 1 2\nagree\n")
        self.refused("sitting 1 2\nask . 0\nagree\n")
        self.refused("sitting 1 2\nobject . 0\nask . 0\nask a 0\nagree\n")

    def test_the_greatest_and_the_least_mark(self):
        for mark in (0, TOP):
            log = f"sitting 1 1\nask . {mark}\nask a {mark}\nagree\n"
            self.assertEqual(followed(log), ("done", (1, (mark,), ((0,),))))

    def test_the_first_row(self):
        for wrong in (
            "sitting 0 2", "sitting 7 2", "sitting 1 0", "sitting 1 13", "sitting 01 2",
            "sitting 1 02", "sitting 1", "sitting", "sitting 1 2 3", "sitting  1 2", "sitting 1  2",
            "sitting 1 2 ", " sitting 1 2", "sitting -1 2", "sitting a 2", "Sitting 1 2", "house 1",
            "seating 1 2", "", "sitting 2 2", f"sitting 1 {10 ** 30}", "sitting 1 2\n",
        ):
            self.refused(LOG.replace("sitting 1 2", wrong))
        for most in range(1, 13):
            for letters in range(1, 7):
                asks = "".join(f"ask {sign} 3\n" for sign in ".abcdef"[:letters + 1])
                log = f"sitting {letters} {most}\n{asks}agree\n"
                house = (letters, (3,), ((0,) * letters,))
                self.assertEqual(followed(log), ("done", house))

    def test_a_wrong_word_over(self):
        for wrong in ("spent b", "spent .", "spent aa", "spent", "spent ", "spent a ", "spent  a",
                      "spent a 7", "Spent a", "agree", "ask aa 7", "object aa 1"):
            self.refused(SPENT.replace("spent a", wrong))
        self.refused(LOG.replace("agree", "spent a"))
        self.refused("sitting 1 1\nask . 0\nask a 7\n")

    def test_blanks_and_other_signs(self):
        for log in (LOG, SPENT):
            for place in range(len(log)):
                if log[place] != "\n" or place < len(log) - 1:
                    self.refused(log[:place] + " " + log[place:])
                self.refused(log[:place] + "~" + log[place:])
                self.refused(log[:place] + "\n" + log[place:])

    def test_other_texts(self):
        for text in ("", "\n", "\n\n", "agree\n", house_text(TWO), "x" * 1000, " " * 100 + "\n"):
            self.refused(text)

    def test_one_log_changed_a_bit(self):
        """A log with a sign changed is refused, or followed as an asker that is told so."""
        chance = random.Random(422)
        log = sitting(house_text(random_house(chance, 2, 4)), 4)
        good = 0
        for number in range(1500):
            place = chance.randrange(len(log))
            sign = chance.choice("ab.0123456789 \nacegijknoprst")
            changed = log[:place] + sign + log[place + 1:]
            due = followed_by_hand(changed)
            if due is None:
                self.refused(changed)
            else:
                good += 1
                self.assertEqual(followed(changed), due)
        self.assertGreater(good, 10)

    def test_what_the_end_proves(self):
        """[11.5], against every house with two letters and at most two rooms."""
        every = [house for rooms in (1, 2) for house in all_houses(2, rooms, (0, 1))]
        for house in list(all_houses(2, 3, (0, 1)))[::97]:
            log, asker = log_by_hand(house, 2, long_objection(17))
            kind, thing = followed(log)
            told = dict(paper_behind(log)[3])
            for other in every:
                if all(answer(other, word) == mark for word, mark in told.items()):
                    self.assertEqual(kind, "done")
                    if len(other[1]) <= len(thing[1]):
                        self.assertNotIn((0, 0), pairs_told_apart(other, thing))


def followed_by_hand(log):
    """What an asker wants behind the log, or None: each row is to be just as it would be written."""
    rows = log.split("\n")
    if rows.pop() != "" or not rows or rows[0] != "sitting 2 4":
        return None
    asker = Asker(2, 4)
    for row in rows[1:]:
        kind, thing = asker.wants()
        words = row.split(" ")
        try:
            if kind == "done":
                return None
            if kind == "spent":
                if row != f"spent {word_text(thing)}" or row is not rows[-1]:
                    return None
                return (kind, thing)
            if row == "agree":
                asker.agree()
                continue
            mark = int(words[2])
            word = read_word(2, words[1])
            if row != f"{words[0]} {word_text(word)} {mark}":
                return None
            if words[0] == "ask" and (kind, thing) == ("ask", word):
                asker.hear(mark)
            elif words[0] == "object":
                asker.differ(word, mark)
            else:
                return None
        except (ValueError, IndexError):
            return None
    return asker.wants() if asker.wants()[0] == "done" else None


if __name__ == "__main__":
    unittest.main()
