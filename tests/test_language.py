"""The package's files keep to LANGUAGE.md, as far as language.py can see it, and to [0.2]."""

import ast
import pathlib
import unittest

import language

PACKAGE = "guessroom"
FOLDER = pathlib.Path(__file__).resolve().parent.parent / PACKAGE

BAD = (
    ("import os\n", "L6/L7"),
    ("from os import path\n", "L2"),
    ("def f():\n    from guessroom.words import less\n    return less\n", "L2"),
    ("print(1)\n", "L3"),
    ("def f(*xs):\n    return xs\n", "L4"),
    ("class C:\n    kept = 1\n", "L5"),
    ("def f():\n    \"\"\"A text by itself.\"\"\"\n    return 1\n", "L6"),
    ("def f(x):\n    a = b = x\n    return a + b\n", "L6"),
    ("def f(x):\n    a, b = x\n    return a + b\n", "L6"),
    ("def f(x):\n    assert x\n", "L6/L7"),
    ("def f(x):\n    return x / 2\n", "L6/L7"),
    ("def f(x):\n    return 1.5\n", "L7"),
    ("def f(x):\n    return sum(y for y in x)\n", "L6/L7"),
    ("def f(x):\n    return hash(x)\n", "L8"),
    ("def f(x):\n    return open(x)\n", "L8"),
    ("def f(x):\n    return chr(x)\n", "L8"),
    ("def f(x):\n" + "    x += 1\n" * 40, "L10"),
    ("def f(x):\n    return x  #" + " " * 120 + "\n", "L10"),
    ("def _f(x):\n    return x\n", "L12"),
    ("def f(x):\n\treturn x\n", "L14"),
    ("def f(x):\n    return x\ndef f(x):\n    return x\n", "L15"),
    ("def f(min):\n    return min\n", "L15"),
    ("# the type of a thing\n", "L17"),
    ("def f(x):\n    return x is 1\n", "L20"),
    ("def f(x):\n    y = range(x)\n    return y\n", "L23"),
    ("def f(x):\n    y = set(x)\n    return 1 in y\n", "L24"),
    ("def f(x):\n    return sorted(set(x), reverse=True)\n", "L24"),
    ("def f(x):\n    return list(set(x))\n", "L24"),
    ("def f(x):\n    return [y for y in {x}]\n", "L24"),
    ("def f(xs):\n    for x in xs:\n        xs.append(x)\n", "L23"),
    ("def f(d):\n    for x, y in d.items():\n        d[x] = y + 1\n", "L23"),
    ("def f(xs):\n    for k, x in enumerate(xs):\n        xs[k] = 0\n", "L23"),
    ("def f(c):\n    for x in c.kept:\n        c.kept.pop()\n", "L23"),
    ("def f(x):\n    return sum(x, key=len)\n", "L22"),
    ("def f(x):\n    return x.split(sep=x)\n", "L22"),
    ("def f(x):\n    try:\n        return x()\n    except Exception:\n        return 0\n", "L19"),
    ("def f(x):\n    try:\n        return x()\n    except (KeyError, ValueError):\n        return 0\n", "L19"),
    ("def f(x):\n    raise x\n", "L19"),
    ("class Kept:\n    pass\ndef f():\n    return [Kept]\n", "L18"),
    ("def f(x):\n    x.sort()\n", "L25"),
    ("def f(x):\n    return 2 ** x\n", "L27"),
    ("def f(x):\n    return \"100%\"\n", "L27"),
)


def files():
    return sorted(path for path in FOLDER.rglob("*") if "__pycache__" not in path.parts)


def trees():
    return {path.stem: ast.parse(path.read_text("utf-8")) for path in files()}


class LanguageTest(unittest.TestCase):
    def test_names_of_files(self):
        self.assertIn(FOLDER / "__init__.py", files())
        for path in files():
            self.assertRegex(path.name, language.FILE_NAME)

    def test_rules_in_each_file(self):
        own = language.own_methods(trees().values()) | language.own_values(trees().values())
        for path in files():
            with self.subTest(file=path.name):
                self.assertEqual(language.faults(PACKAGE, path.read_text("utf-8"), own), [])

    def test_names_of_methods_and_values(self):
        methods = language.own_methods(trees().values())
        values = language.own_values(trees().values())
        self.assertEqual(methods & values, frozenset())
        self.assertEqual(values & language.TAKEN_VALUES, frozenset())
        self.assertIn("letters", values)
        self.assertIn("put", methods)

    def test_imports_name_the_file_that_defines(self):
        known = trees()
        for name, tree in known.items():
            for module, drawn in language.imports(tree):
                stem = module.partition(".")[2]
                self.assertIn(stem, known, name)
                self.assertIn(drawn, language.defined(known[stem]), name)

    def test_no_two_files_draw_from_one_another(self):
        left = {
            name: {module.partition(".")[2] for module, drawn in language.imports(tree)}
            for name, tree in trees().items()
        }
        while left:
            free = [name for name, drawn in left.items() if not drawn & set(left)]
            self.assertTrue(free, left)
            for name in free:
                del left[name]

    def test_sets_where_they_may_stand(self):
        for shown in ("len(set(x))", "sorted(set(x) - set(y))", "x in set(y)", "set(x) == set(y)"):
            source = f"def f(x, y):\n    return {shown}\n"
            self.assertEqual(language.faults(PACKAGE, source), [])

    def test_what_is_ruled_out_is_found(self):
        for source, rule in BAD:
            with self.subTest(source=source):
                self.assertIn(rule, [found for found, at in language.faults(PACKAGE, source)])


if __name__ == "__main__":
    unittest.main()
