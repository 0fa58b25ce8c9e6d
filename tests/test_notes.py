"""[0.2], [5.6], [5.7] and the interface's guessroom/notes.py."""

import random
import unittest

from guessroom.asker import Asker
from guessroom.errors import NoText
from guessroom.notes import (
    house_text, paper_text, read_house, read_paper, read_word, word_text,
)
from guessroom.papers import paper_of
from refusals import RefusalTest
from samples import TOP, all_houses, chain, random_houses, random_word, ring, words_by_hand

THREE = (2, (5, 0, TOP), ((1, 2), (2, 1), (0, 1)))
THREE_TEXT = "house 2\nroom 5 1 2\nroom 0 2 1\nroom 1000000000 0 1\n"
PAPER = (
    3, ((), (2,), (2, 0)), ((), (1, 1)), (((), 0), ((2, 1, 1), TOP), ((0, 1, 2), 42)),
)
PAPER_TEXT = (
    "paper 3\nway .\nway c\nway ca\nend .\nend bb\nheard . 0\nheard cbb 1000000000\nheard abc 42\n"
)
# Signs from the blank to ~, and the line feed.
SIGNS = [chr(number) for number in range(32, 127)] + ["\n"]


def changed_by_a_sign(text):
    """Texts with a sign more, and with another sign, at each place."""
    for place in range(len(text) + 1):
        for sign in SIGNS:
            yield text[:place] + sign + text[place:]
            if place < len(text):
                yield text[:place] + sign + text[place + 1:]


class TextTest(RefusalTest):
    def look_at(self, text, read, write):
        """Either it is refused, or what is read is written just so."""
        try:
            told = read(text)
        except NoText:
            return
        self.assertEqual(write(told), text)


class WordTest(TextTest):
    def test_by_hand(self):
        for word, text in (
            ((), "."), ((0,), "a"), ((5,), "f"), ((0, 1, 2, 3, 4, 5), "abcdef"), ((1, 0), "ba"),
        ):
            self.assertEqual(word_text(word), text)
            self.assertEqual(read_word(6, text), word)

    def test_there_and_back(self):
        chance = random.Random(81)
        for letters in range(1, 7):
            words = words_by_hand(letters, 3)
            words += [random_word(chance, letters, count) for count in (17, 400, 599, 600, 610)]
            for word in words:
                text = word_text(word)
                self.assertEqual(len(text), max(len(word), 1))
                self.assertEqual(read_word(letters, text), word)
                self.assertIs(type(read_word(letters, text)), tuple)

    def test_letters_that_are_none(self):
        for letters in range(1, 7):
            for number, sign in enumerate("abcdefgz"):
                for ahead in ("", "a", "a" * 400):
                    if number < letters:
                        word = (0,) * len(ahead) + (number,)
                        self.assertEqual(read_word(letters, ahead + sign), word)
                    else:
                        self.assert_refused(NoText, read_word, letters, ahead + sign)
                        self.assert_refused(NoText, read_word, letters, sign + ahead)

    def test_each_other_sign(self):
        for sign in SIGNS:
            if sign not in "abcdef":
                for text in ("a" + sign, sign + "a", "a" + sign + "a", sign + sign):
                    self.assert_refused(NoText, read_word, 6, text)
                if sign != ".":
                    self.assert_refused(NoText, read_word, 6, sign)

    def test_no_words(self):
        for text in ("", " ", "..", ". ", " .", ".\n", "\n", "a.", ".a", "A", "F", "0", "a b", "()"):
            for letters in (1, 6):
                self.assert_refused(NoText, read_word, letters, text)


class HouseTest(TextTest):
    def refused(self, text):
        self.assert_refused(NoText, read_house, text)

    def test_by_hand(self):
        self.assertEqual(house_text(THREE), THREE_TEXT)
        self.assertEqual(read_house(THREE_TEXT), THREE)
        self.assertEqual(house_text((1, (0,), ((0,),))), "house 1\nroom 0 0\n")
        self.assertEqual(read_house("house 1\nroom 0 0\n"), (1, (0,), ((0,),)))

    def test_there_and_back(self):
        houses = list(all_houses(1, 2, (0, 10, TOP))) + list(all_houses(2, 2, (0, 1)))
        houses += random_houses(82, 40, most_letters=6, most_rooms=40, marks=(0, 7, 90, TOP))
        houses += [chain(1, 40), ring(6, 40, range(40)), (6, (TOP,), ((0,) * 6,))]
        for house in houses:
            told = read_house(house_text(house))
            self.assertEqual(told, house)
            self.assertEqual(
                [type(part) for part in (told, told[1], told[2]) + told[2]],
                [tuple] * (3 + len(house[2])),
            )

    def test_the_empty_text_and_texts_too_short(self):
        # No beginning of the text writes a house, as a way leads from room 0 to the last room.
        for place in range(len(THREE_TEXT)):
            self.refused(THREE_TEXT[:place])
        self.refused("")
        self.refused("\n")

    def test_the_last_line_feed(self):
        self.refused(THREE_TEXT[:-1])
        self.refused(THREE_TEXT + "\n")
        self.refused("\n" + THREE_TEXT)
        self.refused(THREE_TEXT.replace("\nroom 0", "\n\nroom 0"))
        self.refused(THREE_TEXT.replace("\n", " "))
        self.refused(THREE_TEXT + " ")

    def test_another_word_at_a_rows_begin(self):
        for word in ("paper", "House", "hous", "houses", "room", "", "way"):
            self.refused(THREE_TEXT.replace("house", word))
        for word in ("Room", "roo", "rooms", "house", "", "way", "heard"):
            self.refused(THREE_TEXT.replace("room", word))
            self.refused(THREE_TEXT.replace("room", word, 1))
            self.refused(THREE_TEXT.replace("room 1000000000", word + " 1000000000"))
        self.refused(THREE_TEXT + "house 2\n")
        self.refused(THREE_TEXT + THREE_TEXT)

    def test_a_thing_too_few_or_too_many(self):
        rows = THREE_TEXT.split("\n")[:-1]
        for place, row in enumerate(rows):
            for other in (row + " 0", row + " ", row.rpartition(" ")[0], " " + row, row + " a"):
                changed = rows[:place] + [other] + rows[place + 1:]
                self.refused("\n".join(changed) + "\n")
        self.refused("house\nroom 0 0\n")
        self.refused("house 1\nroom\n")
        self.refused("house 1\nroom 0\n")

    def test_two_blanks(self):
        for place, sign in enumerate(THREE_TEXT):
            if sign == " ":
                self.refused(THREE_TEXT[:place] + " " + THREE_TEXT[place:])
                self.refused(THREE_TEXT[:place] + THREE_TEXT[place + 1:])

    def test_noughts_ahead(self):
        for text in (
            "house 01\nroom 0 0\n", "house 1\nroom 00 0\n", "house 1\nroom 0 00\n",
            "house 1\nroom 05 0\n", "house 1\nroom 0000000001 0\n", "house 001\nroom 5 0\n",
            "house 1\nroom 0 1\nroom 0 01\n",
        ):
            self.refused(text)

    def test_other_ways_to_write_numbers(self):
        for number in ("+1", "-1", "1.0", "1_0", "0x1", "1e0", "", "a", "one", " 1", "-0", "1-"):
            self.refused(f"house {number}\nroom 1 0\n")
            self.refused(f"house 1\nroom {number} 0\nroom 1 0\n")
            self.refused(f"house 1\nroom 1 {number}\nroom 1 0\n")

    def test_counts_of_letters(self):
        for letters in (0, 7, 8, 10, 60):
            ways = " 0" * letters
            self.refused(f"house {letters}\nroom 5{ways}\n")
        for letters in range(1, 7):
            ways = " 0" * letters
            due = (letters, (5,), ((0,) * letters,))
            self.assertEqual(read_house(f"house {letters}\nroom 5{ways}\n"), due)

    def test_marks_out_of_bounds(self):
        self.assertEqual(read_house("house 1\nroom 1000000000 0\n"), (1, (TOP,), ((0,),)))
        for mark in (TOP + 1, 9999999999, 10000000000, 10 ** 30):
            self.refused(f"house 1\nroom {mark} 0\n")

    def test_numbers_of_very_many_figures(self):
        for count in (4299, 4301, 30000, 90000):
            number = "9" * count
            self.refused(f"house {number}\nroom 0 0\n")
            self.refused(f"house 1\nroom {number} 0\n")
            self.refused(f"house 1\nroom 0 {number}\n")

    def test_ways_to_no_room(self):
        for goal in (3, 4, 40, 10 ** 9):
            self.refused(THREE_TEXT.replace("2 1\n", f"2 {goal}\n"))
        self.refused("house 1\nroom 0 1\n")

    def test_counts_of_rooms(self):
        self.assertEqual(len(read_house("house 1\n" + "room 0 0\n" * 40)[1]), 40)
        for rooms in (0, 41, 42, 1000, 9000):
            self.refused("house 1\n" + "room 0 0\n" * rooms)

    def test_each_sign_put_in_or_changed(self):
        for text in changed_by_a_sign("house 1\nroom 5 1\nroom 7 0\n"):
            self.look_at(text, read_house, house_text)


class PaperTest(TextTest):
    def refused(self, text):
        self.assert_refused(NoText, read_paper, text)

    def test_by_hand(self):
        self.assertEqual(paper_text(PAPER), PAPER_TEXT)
        self.assertEqual(read_paper(PAPER_TEXT), PAPER)

    def test_without_some_parts(self):
        for access in ((), ((),), PAPER[1]):
            for ends in ((), ((),), PAPER[2]):
                for heard in ((), (((), 0),), PAPER[3]):
                    paper = (3, access, ends, heard)
                    self.assertEqual(read_paper(paper_text(paper)), paper)
        self.assertEqual(paper_text((1, (), (), ())), "paper 1\n")
        self.assertEqual(read_paper("paper 6\n"), (6, (), (), ()))

    def test_whether_it_tells_apart_is_not_looked_at(self):
        for paper in (
            (1, ((), ()), ((0,), (0,)), (((), 0), ((), 0), ((), 1))),
            (2, ((1, 1), (0,), ()), ((1,), ()), (((0, 1), TOP),)),
        ):
            self.assertEqual(read_paper(paper_text(paper)), paper)

    def test_papers_of_askers(self):
        for letters in range(1, 7):
            asker = Asker(letters, 4)
            for number in range(60):
                paper = paper_of(asker)
                self.assertEqual(read_paper(paper_text(paper)), paper)
                if asker.wants()[0] == "ask":
                    asker.hear(number % 3 * (TOP // 2))

    def test_great_papers(self):
        chance = random.Random(83)
        words = [random_word(chance, 6, 600) for number in range(40)]
        paper = (6, tuple(words), tuple(reversed(words)), tuple((word, TOP) for word in words))
        self.assertEqual(read_paper(paper_text(paper)), paper)
        short = [random_word(chance, 2, 8) for number in range(4000)]
        paper = (2, (), (), tuple((word, chance.randint(0, TOP)) for word in short))
        self.assertEqual(read_paper(paper_text(paper)), paper)

    def test_tuples_all_the_way(self):
        told = read_paper(PAPER_TEXT)
        self.assertEqual([type(part) for part in told], [int, tuple, tuple, tuple])
        self.assertEqual([type(part) for part in told[1] + told[2] + told[3]], [tuple] * 8)

    def test_the_empty_text_and_the_last_line_feed(self):
        for text in ("", "\n", "paper 3", "paper", PAPER_TEXT[:-1], PAPER_TEXT + "\n", PAPER_TEXT + " "):
            self.refused(text)
        self.refused("\n" + PAPER_TEXT)
        self.refused(PAPER_TEXT.replace("\nend .", "\n\nend ."))
        self.refused(PAPER_TEXT.replace("\n", " "))

    def test_another_word_at_a_rows_begin(self):
        for begin in ("paper", "way", "end", "heard"):
            for word in ("house", "room", "", "x", begin.upper(), begin + "s", begin[:-1]):
                self.refused(PAPER_TEXT.replace(begin + " ", word + " ", 1))
        for word in ("way", "end", "heard"):
            self.refused(PAPER_TEXT.replace("paper", word))
        self.refused(PAPER_TEXT + "paper 3\n")

    def test_rows_in_another_order(self):
        rows = PAPER_TEXT.split("\n")[:-1]
        kinds = [row.partition(" ")[0] for row in rows]
        for one in range(len(rows)):
            for other in range(one):
                if kinds[one] != kinds[other]:
                    swapped = list(rows)
                    swapped[one], swapped[other] = rows[other], rows[one]
                    self.refused("\n".join(swapped) + "\n")
        self.refused("way .\npaper 1\n")
        self.refused("paper 1\nend .\nway .\n")
        self.refused("paper 1\nheard . 0\nend .\n")
        self.refused("paper 1\nheard . 0\nway .\n")

    def test_a_thing_too_few_or_too_many(self):
        rows = PAPER_TEXT.split("\n")[:-1]
        for place, row in enumerate(rows):
            for other in (
                row + " a", row + " 0", row + " .", row + " ", " " + row, row.rpartition(" ")[0],
                row.partition(" ")[0], row.partition(" ")[2],
            ):
                changed = rows[:place] + [other] + rows[place + 1:]
                self.refused("\n".join(changed) + "\n")

    def test_two_blanks(self):
        for place, sign in enumerate(PAPER_TEXT):
            if sign == " ":
                self.refused(PAPER_TEXT[:place] + " " + PAPER_TEXT[place:])
                self.refused(PAPER_TEXT[:place] + PAPER_TEXT[place + 1:])

    def test_noughts_ahead(self):
        for text in (
            "paper 03\n", "paper 00\n", "paper 1\nheard . 00\n", "paper 1\nheard . 07\n",
            "paper 1\nheard . 0000000001\n",
        ):
            self.refused(text)

    def test_counts_of_letters(self):
        for letters in (0, 7, 8, 60):
            self.refused(f"paper {letters}\n")
            self.refused(f"paper {letters}\nway .\nend .\nheard . 0\n")
        for letters in range(1, 7):
            due = (letters, ((),), (), ())
            self.assertEqual(read_paper(f"paper {letters}\nway .\n"), due)
        for number in ("", "a", "-1", "+1", "1.0", "9" * 5000):
            self.refused(f"paper {number}\n")

    def test_letters_that_are_none_of_the_papers(self):
        for letters in range(1, 6):
            sign = "abcdef"[letters]
            for word in (sign, "a" + sign, sign + "a", "a" * 599 + sign):
                self.refused(f"paper {letters}\nway {word}\n")
                self.refused(f"paper {letters}\nend {word}\n")
                self.refused(f"paper {letters}\nheard {word} 0\n")
        for word in ("g", "A", "..", "a.", "0", "-", "~"):
            self.refused(f"paper 6\nway {word}\n")
            self.refused(f"paper 6\nend {word}\n")
            self.refused(f"paper 6\nheard {word} 0\n")

    def test_marks(self):
        self.assertEqual(read_paper("paper 1\nheard a 1000000000\n")[3], (((0,), TOP),))
        self.assertEqual(read_paper("paper 1\nheard a 0\n")[3], (((0,), 0),))
        for mark in (TOP + 1, 9999999999, 10 ** 10, -1, "+1", "1.5", "a", ".", "9" * 5000):
            self.refused(f"paper 1\nheard a {mark}\n")

    def test_each_sign_put_in_or_changed(self):
        for text in changed_by_a_sign("paper 2\nway .\nend b\nheard a 9\n"):
            self.look_at(text, read_paper, paper_text)


if __name__ == "__main__":
    unittest.main()
