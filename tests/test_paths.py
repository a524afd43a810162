import itertools
import re
import unittest

from helper import outcome, refused
from ownroom.paths import names_of


class TestPaths(unittest.TestCase):
    def test_the_root(self):
        self.assertEqual(names_of("/"), [])

    def test_one_name(self):
        for name in ("a", "z", "ab", "abcdef", "zzzzzz", "dir"):
            self.assertEqual(names_of("/" + name), [name])

    def test_many_names(self):
        self.assertEqual(names_of("/a/b"), ["a", "b"])
        self.assertEqual(names_of("/usr/home/abcdef/x"), ["usr", "home", "abcdef", "x"])
        self.assertEqual(names_of("/a/a/a"), ["a", "a", "a"])
        self.assertEqual(names_of("/abcde" * 600), ["abcde"] * 600)

    def test_each_letter(self):
        for letter in "abcdefghijklmnopqrstuvwxyz":
            self.assertEqual(names_of("/x" + letter), ["x" + letter])

    def test_a_new_list_each_time(self):
        for path in ("/", "/a", "/a/b"):
            told = names_of(path)
            again = names_of(path)
            self.assertIsNot(told, again)
            told.append("c")
            self.assertEqual(names_of(path), again)


class TestBadNames(unittest.TestCase):
    def test_no_paths(self):
        for path in ("", "a", "ab/c", "//", "///", "/a/", "/a//b", "//a", "a/", "/abcdefg", "/a/abcdefg", "/abcdefg/a",
                     "/A", "/aB", "/Z", "/1", "/a1", "/a/0", " ", "/ ", " /", " /a", "/a ", "/ a", "/a b", "/a/ ",
                     "\n", "/\n", "/a\n", "\n/a", "/a\n/b", "/.", "/..", "/a.b", "/./a", "/a/..", "/a-b", "/a_b",
                     "/a\\b", "\\a", "/@", "/`", "/{", "/~", "/a/b/", "/a,/b", "/" * 4000, "a" * 4000,
                     "/" + "a" * 3999):
            self.assertEqual(outcome(names_of, path), refused("BadName"), repr(path))

    def test_all_short_texts(self):
        form = re.compile(r"/|(/[a-z]{1,6})+")
        for many in range(5):
            for signs in itertools.product("/azA \n", repeat=many):
                path = "".join(signs)
                want = ("told", [name for name in path.split("/") if name]) if form.fullmatch(path) \
                    else refused("BadName")
                self.assertEqual(outcome(names_of, path), want, repr(path))

    def test_each_sign_that_is_no_letter(self):
        for code in list(range(32, 127)) + [10]:
            sign = chr(code)
            if sign not in "abcdefghijklmnopqrstuvwxyz":
                self.assertEqual(outcome(names_of, "/" + sign if sign != "/" else "//"), refused("BadName"))
                self.assertEqual(outcome(names_of, "/a" + sign), refused("BadName"))


if __name__ == "__main__":
    unittest.main()
