"""The interface: each name is there, with its arguments as they stand."""

import importlib
import inspect
import unittest

FUNCTIONS = {
    "words": (
        "is_word(letters, word)", "less(word, other)", "next_word(letters, word)",
        "place_of(letters, word)", "word_at(letters, place)", "words_to(letters, most)",
    ),
    "house": (
        "made(letters, marks, ways)", "trail(house, word)", "room_behind(house, word)",
        "mark_behind(house, word)", "marks_along(house, word)", "turned(house, order)",
    ),
    "reach": ("ways_in(house)", "reached(house)"),
    "telling": (
        "apart(house, one, other)", "pairs(house, other)", "difference(house, other)",
        "tellers(house)",
    ),
    "least": ("least(house)", "homes(house)", "alike(house, other)"),
    "suite": (
        "suite(house, more)", "slim(house, more)", "trials_of(house, words)",
        "passes(house, some)", "first_failed(house, some)",
    ),
    "table": (
        "rows_of(letters, access)", "cells(letters, access, ends)",
        "gap(book, letters, access, ends)", "marks_of(book, word, ends)",
        "stranger(book, letters, access, ends)", "guess_of(book, letters, access, ends)",
        "first_wrong(book, house)",
    ),
    "papers": ("paper_of(asker)", "at_least(paper)", "judged(paper)"),
    "notes": (
        "word_text(word)", "read_word(letters, text)", "house_text(house)", "paper_text(paper)",
        "read_house(text)", "read_paper(text)",
    ),
    "sayhouse": (
        "made_says(letters, says, ways)", "said(house, word)", "last_said(house, word)",
        "marks_from(house, mark)", "says_from(house)", "says_difference(house, other)",
        "says_least(house)",
    ),
    "field": (
        "inverse(p, number)", "scaled(p, factor, row)", "added(p, row, other)",
        "product(p, row, other)",
    ),
    "spans": (
        "chosen(p, rows)", "rank(p, rows)", "free(p, rows)", "factors(p, rows, row)",
        "made_of(p, rows, parts, size)", "gauge(p, rows, row)",
    ),
    "sumhouse": (
        "made_sums(p, letters, first, tables, last)", "row_behind(house, word)",
        "worth(house, word)", "sums_less(house, other)", "sums_times(house, other)",
        "sums_back(house)",
    ),
    "sumleast": (
        "sums_basis(house)", "sums_difference(house, other)", "sums_alike(house, other)",
        "sums_access(house)", "sums_least(house)", "sums_paper(house)",
    ),
    "sumpapers": (
        "sum_paper(asker)", "sum_at_least(paper)", "sum_undone(paper)", "sum_judged(paper)",
    ),
    "nest": (
        "nested(plain, helpers, signs)", "local_word(plain, helpers, signs)",
        "parts(plain, helpers, signs)", "spread(plain, helpers, local, rows)",
    ),
    "callhouse": (
        "made_works(plain, houses)", "takes(works, signs)", "shortest(works)", "uses_of(works)",
        "works_difference(works, other)",
    ),
    "callasker": ("use_row(plain, helpers, j, use, local)",),
    "sitting": ("sitting(text, most)", "followed(log)", "paper_behind(log)"),
}

ASKER = ("wants()", "agree()", "access()", "tellers()", "heard()")
CLASSES = {
    "book": ("Book(letters)", ("put(word, mark)", "told(word)", "heard()")),
    "asker": ("Asker(letters, most)", ASKER + ("hear(mark)", "differ(word, mark)")),
    "sayasker": ("SayAsker(letters, most)", ASKER + ("hear(mark)", "differ(word, mark)")),
    "sumasker": ("SumAsker(p, letters, most)", ASKER + ("hear(number)", "differ(word, number)")),
    "callasker": (
        "CallAsker(plain, helpers, most, uses)",
        ("wants()", "hear(taken)", "agree()", "differ(signs, taken)", "heard()"),
    ),
    "lone": ("LoneAsker(letters, most)", ("wants()", "hear(mark)", "heard()")),
}


def drawn(module):
    return importlib.import_module("guessroom." + module)


def written(name, thing):
    return name + str(inspect.signature(thing))


class InterfaceTest(unittest.TestCase):
    def test_functions(self):
        for module, shown in FUNCTIONS.items():
            for text in shown:
                name = text.partition("(")[0]
                self.assertEqual(written(name, getattr(drawn(module), name)), text)

    def test_classes(self):
        for module, (text, methods) in CLASSES.items():
            name = text.partition("(")[0]
            found = getattr(drawn(module), name)
            self.assertEqual(written(name, found), text)
            for shown in methods:
                method = shown.partition("(")[0]
                due = shown.replace("(", "(self, ").replace(", )", ")")
                self.assertEqual(written(method, getattr(found, method)), due)


if __name__ == "__main__":
    unittest.main()
