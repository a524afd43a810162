"""The deeds by paths, tried on files of both makes."""

import unittest

from helper import NAMES, FileDeeds, OnADisk, Plain, path_behind, use_up

BAD_PATHS = ("", "a", "//", "/a/", "/abcdefg", "/A", "/a b", "/a1", "/a//b", "/.", "/a" * 1999 + "/B")


class Deeds(FileDeeds):
    def sample(self, blocks=60):
        """Files a and b (one node), dirs d, d/e, d/e/f, files d/x and d/e/y, all with some cells."""
        files = self.files(blocks)
        files.make("/a")
        files.make_dir("/d")
        files.make_dir("/d/e")
        files.make_dir("/d/e/f")
        files.make("/d/x")
        files.make("/d/e/y")
        files.link("/a", "/b")
        files.write_at(1, 3, [1, 2, 3])
        files.write_at(5, 0, [4] * 20)
        files.write_at(6, 100, [5])
        return files

    def full_dir(self, files, path):
        """A dir with 40 names, all of one file."""
        files.make_dir(path)
        files.make(path_behind(path, NAMES[0]))
        for name in NAMES[1:]:
            files.link(path_behind(path, NAMES[0]), path_behind(path, name))


class Nodes(Deeds):
    def test_the_root_alone_at_first(self):
        for blocks in (1, 2, 60, 192):
            files = self.files(blocks)
            self.assertEqual((files.find("/"), files.names("/"), files.stat(0)), (0, [], ("dir", 1, 0)))
            self.assertEqual(files.free(), (23, blocks))

    def test_names_of_one_to_six_letters(self):
        files = self.files(60)
        for n, name in enumerate(("a", "zy", "abc", "zzzz", "aaaaa", "qwerty"), start=1):
            self.assertEqual(files.make("/" + name), n)
        self.assertEqual(files.names("/"), ["a", "aaaaa", "abc", "qwerty", "zy", "zzzz"])
        self.assertEqual([files.find("/" + name) for name in ("qwerty", "a", "zy")], [6, 1, 2])
        self.refuse(files, "NoName", "find", "/qwert")
        self.refuse(files, "NoName", "find", "/z")

    def test_each_letter(self):
        files = self.files(60)
        letters = "abcdefghijklmnopqrstuvwxyz"
        files.make("/abcdef")
        for at in range(1, 26 - 5):
            files.move("/" + letters[at - 1:at + 5], "/" + letters[at:at + 6])
            self.assertEqual(files.names("/"), [letters[at:at + 6]])

    def test_dirs_in_dirs(self):
        files = self.files(60)
        path = ""
        for n in range(1, 24):
            path += "/dir"
            self.assertEqual(files.make_dir(path), n)
        self.assertEqual(files.free(), (0, 60 - 23))
        self.assertEqual([files.find("/dir" * n or "/") for n in range(24)], list(range(24)))
        self.assertEqual([files.names("/dir" * n or "/") for n in range(24)], [["dir"]] * 23 + [[]])
        self.refuse(files, "NoName", "find", "/dir" * 24)
        self.refuse(files, "NoNode", "make", "/dir" * 23 + "/x")
        self.refuse(files, "NotEmpty", "remove_dir", "/dir" * 22)
        for n in range(23, 0, -1):
            self.assertIsNone(files.remove_dir("/dir" * n))
        self.assertEqual(files.free(), (23, 59))

    def test_a_new_node_is_the_least_free_one(self):
        files = self.files(60)
        self.assertEqual([files.make("/" + name) for name in NAMES[:23]], list(range(1, 24)))
        self.refuse(files, "NoNode", "make", "/x")
        self.refuse(files, "NoNode", "make_dir", "/x")
        for at in (20, 3, 11):
            files.unlink("/" + NAMES[at - 1])
        self.assertEqual(files.free()[0], 3)
        self.assertEqual([files.make("/p"), files.make_dir("/q"), files.make_dir("/q/r")], [3, 11, 20])
        self.refuse(files, "NoNode", "make_dir", "/q/s")
        files.remove_dir("/q/r")
        self.assertEqual(files.make("/q/s"), 20)

    def test_slots_stay_when_names_go(self):
        files = self.files(60)
        files.make_dir("/d")
        sizes = []
        for name in "pqrst":
            files.make("/d/" + name)
            sizes.append(files.stat(1)[2])
        self.assertEqual(sizes, [1, 2, 3, 4, 5])
        for name in "qsptr":
            files.unlink("/d/" + name)
            self.assertEqual((files.stat(1), files.free()[1]), (("dir", 1, 5), 60 - 1 - 3))
        for name in "abcdefgh":
            files.make("/d/" + name)
            sizes.append(files.stat(1)[2])
        self.assertEqual(sizes[5:], [5, 5, 5, 5, 5, 6, 7, 8])
        self.assertEqual(files.names("/d"), list("abcdefgh"))
        for name in "abcdefgh":
            files.unlink("/d/" + name)
        files.remove_dir("/d")
        self.assertEqual(files.free(), (23, 59))
        self.assertEqual((files.make_dir("/d"), files.stat(1)), (1, ("dir", 1, 0)))

    def test_blocks_of_dirs(self):
        for slots, blocks in ((0, 0), (1, 1), (2, 1), (3, 2), (4, 2), (5, 3), (8, 4), (9, 6), (10, 6), (11, 7),
                              (39, 21), (40, 21)):
            files = self.files(60)
            files.make_dir("/d")
            files.make("/x")
            for name in NAMES[:slots]:
                files.link("/x", "/d/" + name)
            self.assertEqual((files.stat(1), files.free()), (("dir", 1, slots), (21, 59 - blocks)))
            self.assertEqual(files.names("/d"), NAMES[:slots])

    def test_a_dir_of_forty_slots(self):
        files = self.files(60)
        self.full_dir(files, "/d")
        self.assertEqual((files.stat(1), files.stat(2)), (("dir", 1, 40), ("file", 40, 0)))
        for deed in (("make", "/d/x"), ("make_dir", "/d/x"), ("link", "/d/av", "/d/x")):
            self.refuse(files, "TooMany", *deed)
        files.unlink("/d/ez")
        self.assertEqual(files.make_dir("/d/x"), 3)
        self.assertEqual(files.stat(1), ("dir", 1, 40))
        self.refuse(files, "TooMany", "make", "/d/ez")

    def test_a_root_of_forty_slots(self):
        files = self.files(21)
        files.make("/av")
        for name in NAMES[1:]:
            files.link("/av", "/" + name)
        self.assertEqual(files.free(), (22, 0))
        self.refuse(files, "TooMany", "make", "/x")
        self.refuse(files, "TooMany", "link", "/av", "/x")
        for name in NAMES:
            files.unlink("/" + name)
        self.assertEqual((files.free(), files.stat(0), files.names("/")), ((23, 0), ("dir", 1, 40), []))

    def test_one_block(self):
        files = self.files(1)
        self.assertEqual([files.make_dir("/p"), files.make("/q")], [1, 2])
        self.refuse(files, "NoSpace", "make", "/r")
        self.refuse(files, "NoSpace", "make", "/p/r")
        self.refuse(files, "NoSpace", "link", "/q", "/r")
        self.refuse(files, "NoSpace", "move", "/q", "/p/r")
        self.refuse(files, "NoSpace", "write_at", 2, 0, [1])
        files.move("/q", "/r")
        files.unlink("/r")
        self.assertEqual(files.make_dir("/s"), 2)
        self.assertEqual((files.names("/"), files.free()), (["p", "s"], (21, 0)))

    def test_many_blocks(self):
        files = self.files(192)
        for n, name in enumerate(NAMES[:8], start=1):
            files.make("/" + name)
            files.cut(n, 320)
        files.make("/x")
        files.cut(9, 16 * 15)
        self.assertEqual(files.free(), (14, 192 - 6 - 8 * 21 - 16))
        files.make("/y")
        files.cut(10, 32)
        self.assertEqual(files.free(), (13, 0))
        self.refuse(files, "NoSpace", "cut", 10, 33)


class Names(Deeds):
    def test_find(self):
        files = self.sample()
        for path, node in (("/", 0), ("/a", 1), ("/b", 1), ("/d", 2), ("/d/e", 3), ("/d/e/f", 4), ("/d/x", 5),
                           ("/d/e/y", 6)):
            self.assertEqual(files.find(path), node)

    def test_names(self):
        files = self.sample()
        self.assertEqual(files.names("/"), ["a", "b", "d"])
        self.assertEqual(files.names("/d"), ["e", "x"])
        self.assertEqual(files.names("/d/e"), ["f", "y"])
        self.assertEqual(files.names("/d/e/f"), [])

    def test_names_rise(self):
        files = self.files(60)
        for name in ("b", "ab", "a", "zz", "aaa", "ba", "abc"):
            files.make("/" + name)
        self.assertEqual(files.names("/"), ["a", "aaa", "ab", "abc", "b", "ba", "zz"])

    def test_deeds_tell_nothing(self):
        files = self.sample()
        told = [files.link("/a", "/d/a"), files.unlink("/d/a"), files.remove_dir("/d/e/f"), files.move("/b", "/c"),
                files.cut(1, 2), files.hold(1), files.loose(1)]
        self.assertEqual(told, [None] * 7)

    def test_a_file_of_several_names(self):
        files = self.sample()
        files.link("/b", "/d/e/f/z")
        self.assertEqual((files.stat(1), files.find("/d/e/f/z")), (("file", 3, 6), 1))
        files.unlink("/a")
        files.unlink("/b")
        self.assertEqual((files.stat(1), files.read_at(1, 0, 320)), (("file", 1, 6), [0, 0, 0, 1, 2, 3]))
        free = files.free()
        files.unlink("/d/e/f/z")
        self.assertEqual(files.free(), (free[0] + 1, free[1] + 1))
        self.refuse(files, "NoNode", "stat", 1)

    def test_a_new_file_has_no_cells_of_an_old_one(self):
        files = self.sample()
        files.unlink("/d/e/y")
        self.assertEqual(files.make("/d/z"), 6)
        self.assertEqual((files.stat(6), files.read_at(6, 0, 320)), (("file", 1, 0), []))
        files.cut(6, 320)
        self.assertEqual(files.read_at(6, 0, 320), [0] * 320)

    def test_a_new_dir_has_no_names_of_an_old_one(self):
        files = self.sample()
        files.unlink("/d/e/y")
        files.remove_dir("/d/e/f")
        files.remove_dir("/d/e")
        self.assertEqual(files.make_dir("/d/g"), 3)
        self.assertEqual((files.stat(3), files.names("/d/g")), (("dir", 1, 0), []))

    def test_remove_dir(self):
        files = self.sample()
        files.remove_dir("/d/e/f")
        self.assertEqual((files.names("/d/e"), files.stat(3)), (["y"], ("dir", 1, 2)))
        self.refuse(files, "NoName", "find", "/d/e/f")
        self.refuse(files, "NoNode", "stat", 4)

    def test_move_within_a_dir(self):
        files = self.sample()
        before = files.free()
        files.move("/d/x", "/d/z")
        self.assertEqual((files.names("/d"), files.find("/d/z"), files.stat(2)), (["e", "z"], 5, ("dir", 1, 2)))
        files.move("/d/e", "/d/x")
        self.assertEqual((files.names("/d"), files.find("/d/x/y")), (["x", "z"], 6))
        files.move("/a", "/c")
        self.assertEqual((files.names("/"), files.stat(1)), (["b", "c", "d"], ("file", 2, 6)))
        self.assertEqual((files.free(), files.stat(0)), (before, ("dir", 1, 3)))

    def test_move_of_a_dir_with_all_that_is_in_it(self):
        files = self.sample()
        files.make_dir("/g")
        before = [files.stat(node) for node in range(2, 7)]
        files.move("/d/e", "/g/h")
        self.assertEqual([files.find(path) for path in ("/g/h", "/g/h/f", "/g/h/y")], [3, 4, 6])
        self.assertEqual((files.names("/d"), files.names("/g"), files.names("/g/h")), (["x"], ["h"], ["f", "y"]))
        self.assertEqual([files.stat(node) for node in range(2, 7)], before)
        self.refuse(files, "NoName", "find", "/d/e")
        files.move("/g", "/d/g")
        self.assertEqual((files.find("/d/g/h/y"), files.names("/")), (6, ["a", "b", "d"]))
        files.move("/d/g/h", "/h")
        self.assertEqual((files.find("/h/f"), files.names("/d/g")), (4, []))

    def test_move_onto_a_name_that_was_just_freed(self):
        files = self.sample()
        files.unlink("/a")
        files.move("/b", "/a")
        self.assertEqual((files.names("/"), files.find("/a"), files.stat(1)), (["a", "d"], 1, ("file", 1, 6)))
        files.unlink("/d/x")
        files.move("/a", "/d/x")
        self.assertEqual((files.find("/d/x"), files.names("/"), files.stat(2)), (1, ["d"], ("dir", 1, 2)))
        files.move("/d/x", "/d/xx")
        files.move("/d/xx", "/d/x")
        self.assertEqual((files.names("/d"), files.find("/d/x")), (["e", "x"], 1))

    def test_move_out_of_a_dir_that_is_then_removed(self):
        files = self.sample()
        files.move("/d/e/f", "/f")
        files.move("/d/e/y", "/f/y")
        files.remove_dir("/d/e")
        self.assertEqual((files.names("/f"), files.find("/f/y"), files.names("/d")), (["y"], 6, ["x"]))

    def test_move_within_a_full_dir(self):
        files = self.files(60)
        self.full_dir(files, "/d")
        files.make("/x")
        self.refuse(files, "TooMany", "move", "/x", "/d/x")
        files.move("/d/dw", "/d/x")
        self.assertEqual(files.names("/d"), sorted(set(NAMES + ["x"]) - {"dw"}))
        self.assertEqual((files.stat(1), files.stat(2)), (("dir", 1, 40), ("file", 40, 0)))
        files.move("/d/x", "/y")
        files.move("/x", "/d/x")
        self.assertEqual((files.find("/d/x"), files.find("/y"), files.stat(1)), (3, 2, ("dir", 1, 40)))

    def test_move_within_a_dir_needs_no_block(self):
        files = self.files(2)
        files.make("/a")
        files.make("/b")
        files.cut(1, 16)
        self.assertEqual(files.free()[1], 0)
        files.move("/a", "/c")
        self.assertEqual((files.names("/"), files.stat(0), files.free()), (["b", "c"], ("dir", 1, 2), (21, 0)))


class Refusals(Deeds):
    def test_bad_names_first_of_all(self):
        files = self.sample()
        for path in BAD_PATHS:
            for deed in ("find", "make", "make_dir", "unlink", "remove_dir", "names"):
                self.refuse(files, "BadName", deed, path)
            for deed in ("link", "move"):
                for other in ("/", "/a", "/nope", "/a/b", "/d", "/new") + BAD_PATHS[:2]:
                    self.refuse(files, "BadName", deed, path, other)
                    self.refuse(files, "BadName", deed, other, path)

    def test_the_first_that_is_met_from_the_root_on(self):
        files = self.sample()
        for path, name in (("/x", "NoName"), ("/x/y", "NoName"), ("/a/b", "NotDir"), ("/a/b/c", "NotDir"),
                           ("/d/a", "NoName"), ("/d/x/y", "NotDir"), ("/d/e/q/x", "NoName"), ("/d/e/y/x", "NotDir"),
                           ("/d/q/a/b", "NoName"), ("/ab", "NoName"), ("/d" * 2000, "NoName"),
                           ("/a" * 2000, "NotDir")):
            for deed in ("find", "unlink", "remove_dir", "names"):
                self.refuse(files, name, deed, path)
            for new in ("/new", "/", "/a", "/a/b", "/nope/x"):
                self.refuse(files, name, "link", path, new)
                self.refuse(files, name, "move", path, new)

    def test_what_stands_ahead_of_a_new_name(self):
        files = self.sample()
        for path, name in (("/", "Taken"), ("/a", "Taken"), ("/d", "Taken"), ("/d/e", "Taken"), ("/d/x", "Taken"),
                           ("/a/x", "NotDir"), ("/a/x/y", "NotDir"), ("/q/x", "NoName"), ("/d/x/x", "NotDir"),
                           ("/d/q/x", "NoName"), ("/d/e/y/z/f", "NotDir")):
            self.refuse(files, name, "make", path)
            self.refuse(files, name, "make_dir", path)
            for old in ("/a", "/b", "/d/x", "/d/e/y"):
                self.refuse(files, name, "link", old, path)
                self.refuse(files, name, "move", old, path)

    def test_names_of_a_file(self):
        files = self.sample()
        for path in ("/a", "/b", "/d/x", "/d/e/y"):
            self.refuse(files, "NotDir", "names", path)

    def test_link_and_unlink_of_dirs(self):
        files = self.sample()
        for path in ("/", "/d", "/d/e", "/d/e/f"):
            self.refuse(files, "IsDir", "unlink", path)
            for new in ("/new", "/", "/a", "/q/x", "/a/x", "/d/new", "/d/e/new"):
                self.refuse(files, "IsDir", "link", path, new)

    def test_remove_dir(self):
        files = self.sample()
        for path in ("/a", "/b", "/d/x", "/d/e/y"):
            self.refuse(files, "NotDir", "remove_dir", path)
        self.refuse(files, "NotAllowed", "remove_dir", "/")
        self.refuse(files, "NotEmpty", "remove_dir", "/d")
        self.refuse(files, "NotEmpty", "remove_dir", "/d/e")
        self.refuse(self.files(3), "NotAllowed", "remove_dir", "/")

    def test_move_of_the_root(self):
        files = self.sample()
        for new in ("/", "/a", "/new", "/q/x", "/a/x", "/d/new"):
            self.refuse(files, "NotAllowed", "move", "/", new)

    def test_move_onto_itself(self):
        files = self.sample()
        for path in ("/a", "/d", "/d/e", "/d/x"):
            self.refuse(files, "Taken", "move", path, path)
            self.refuse(files, "Taken", "move", path, "/")

    def test_inside(self):
        files = self.sample()
        for path, new in (("/d", "/d/new"), ("/d", "/d/e/new"), ("/d", "/d/e/f/new"), ("/d/e", "/d/e/new"),
                          ("/d/e", "/d/e/f/new"), ("/d/e/f", "/d/e/f/new"), ("/d", "/d/d")):
            self.refuse(files, "Inside", "move", path, new)
        for path, new, name in (("/d", "/d/e", "Taken"), ("/d", "/d/x", "Taken"), ("/d", "/d/e/f", "Taken"),
                                ("/d", "/d/q/x", "NoName"), ("/d", "/d/x/y", "NotDir"), ("/a", "/a/x", "NotDir")):
            self.refuse(files, name, "move", path, new)
        files.move("/d/e", "/e")
        files.move("/d", "/e/d")
        self.refuse(files, "Inside", "move", "/e", "/e/d/e")

    def test_inside_ahead_of_too_many_and_no_space(self):
        files = self.files(60)
        self.full_dir(files, "/d")
        self.refuse(files, "Inside", "move", "/d", "/d/x")
        files.unlink("/d/av")
        files.make_dir("/d/e")
        files.make_dir("/f")
        self.refuse(files, "Inside", "move", "/d", "/d/x")
        self.refuse(files, "TooMany", "move", "/f", "/d/x")
        files.make("/p")
        files.make("/q")
        use_up(files, [files.find("/p"), files.find("/q")], 0)
        self.refuse(files, "Inside", "move", "/d", "/d/e/x")
        self.refuse(files, "NoSpace", "move", "/f", "/d/e/x")

    def test_taken_ahead_of_the_rest(self):
        files = self.files(60)
        self.full_dir(files, "/d")
        for name in NAMES[:21]:
            files.make("/" + name)
        use_up(files, [3, 4, 5], 0)
        self.assertEqual(files.free(), (0, 0))
        for deed in (("make", "/d/av"), ("make_dir", "/d/av"), ("link", "/av", "/d/av"), ("move", "/av", "/d/av"),
                     ("make", "/"), ("make_dir", "/"), ("link", "/av", "/"), ("move", "/av", "/")):
            self.refuse(files, "Taken", *deed)
        for deed in (("make", "/d/x"), ("make_dir", "/d/x"), ("link", "/av", "/d/x"), ("move", "/av", "/d/x")):
            self.refuse(files, "TooMany", *deed)

    def test_no_node_ahead_of_no_space(self):
        files = self.files(60)
        files.make_dir("/d")
        for name in NAMES[:22]:
            files.make("/" + name)
        use_up(files, [2, 3, 4, 5], 0)
        self.assertEqual(files.free(), (0, 0))
        self.refuse(files, "NoNode", "make", "/d/x")
        self.refuse(files, "NoNode", "make_dir", "/d/x")
        # A link and a move need no node.
        self.refuse(files, "NoSpace", "link", "/av", "/d/x")
        self.refuse(files, "NoSpace", "move", "/av", "/d/x")
        files.unlink("/bv")
        self.refuse(files, "NoSpace", "make", "/d/x")
        self.refuse(files, "NoSpace", "make_dir", "/d/x")
        self.assertEqual(files.make("/x"), 7)

    def test_the_first_told_where_all_is_used_up(self):
        files = self.files(60)
        self.full_dir(files, "/d")
        files.make_dir("/e")
        files.make_dir("/e/g")
        for name in NAMES[:19]:
            files.make("/" + name)
        use_up(files, range(5, 24), 0)
        self.assertEqual(files.free(), (0, 0))
        # Behind each call and what is told for it stands what would be told else, in this order.
        for call, name in (
                (("make", "/d/av/"), "BadName"),  # NotDir
                (("make", "/d/x/"), "BadName"),  # NoName
                (("make_dir", "/d/AV"), "BadName"),  # TooMany, NoNode, NoSpace
                (("link", "/d", "/d/X"), "BadName"),  # IsDir, TooMany, NoSpace
                (("link", "//", "/d/x"), "BadName"),
                (("move", "/", "/d/x/"), "BadName"),  # NotAllowed, NoName
                (("move", "/nope", ""), "BadName"),  # NoName
                (("unlink", "/d/"), "BadName"),  # IsDir
                (("remove_dir", "/d//"), "BadName"),  # NotEmpty
                (("make", "/av/x/y"), "NotDir"),  # NoNode, NoSpace
                (("make", "/x/y"), "NoName"),  # NoNode
                (("make_dir", "/d/x/y"), "NoName"),  # NoNode, NoSpace
                (("link", "/e", "/av/x"), "IsDir"),  # NotDir
                (("link", "/e", "/d/av"), "IsDir"),  # Taken, TooMany
                (("link", "/e", "/d/x"), "IsDir"),  # TooMany
                (("link", "/nope", "/d/av"), "NoName"),  # Taken, TooMany
                (("link", "/av/x", "/nope/x"), "NotDir"),  # NoName
                (("link", "/av", "/e/g/x/y"), "NoName"),  # NoSpace
                (("link", "/av", "/d/av"), "Taken"),  # TooMany, NoSpace
                (("link", "/av", "/d/x"), "TooMany"),  # NoSpace
                (("link", "/av", "/e/g/x"), "NoSpace"),
                (("remove_dir", "/"), "NotAllowed"),  # NotEmpty
                (("move", "/", "/"), "NotAllowed"),  # Taken
                (("move", "/", "/d/x"), "NotAllowed"),  # Inside, TooMany
                (("move", "/", "/av/x"), "NotAllowed"),  # NotDir
                (("move", "/nope", "/d/av"), "NoName"),  # Taken, TooMany
                (("move", "/d", "/d/av"), "Taken"),  # Inside, TooMany
                (("move", "/e", "/e/g"), "Taken"),  # Inside
                (("move", "/d", "/d/x"), "Inside"),  # TooMany
                (("move", "/e", "/e/g/x"), "Inside"),  # NoSpace
                (("move", "/e", "/d/x"), "TooMany"),
                (("move", "/d", "/e/g/x"), "NoSpace"),
                (("make", "/d/av"), "Taken"),  # TooMany, NoNode
                (("make", "/d/x"), "TooMany"),  # NoNode
                (("make", "/e/g/x"), "NoNode")):  # NoSpace
            self.refuse(files, name, *call)

    def test_no_space_for_a_new_slot(self):
        for slots in range(40):
            files = self.files(60)
            for name in ("p", "q", "r", "s", "x"):
                files.make("/" + name)
            files.make_dir("/d")
            for name in NAMES[:slots]:
                files.link("/x", "/d/" + name)
            needed = 2 if slots == 8 else 1 if slots % 2 == 0 else 0
            if needed:
                use_up(files, [1, 2, 3, 4], needed - 1)
                for deed in (("make", "/d/x"), ("make_dir", "/d/x"), ("link", "/x", "/d/x"), ("move", "/x", "/d/x")):
                    self.refuse(files, "NoSpace", *deed)
            use_up(files, [1, 2, 3, 4], needed)
            self.assertEqual(files.make("/d/x"), 7)
            self.assertEqual((files.stat(6)[2], files.free()[1]), (slots + 1, 0))

    def test_a_free_slot_needs_no_block(self):
        files = self.files(8)
        files.make("/p")
        files.make_dir("/d")
        files.make("/d/x")
        files.make("/d/y")
        files.unlink("/d/x")
        use_up(files, [1], 0)
        self.assertEqual(files.make_dir("/d/z"), 3)
        self.refuse(files, "NoSpace", "make", "/d/x")


class TestNodesOnADisk(OnADisk, Nodes, unittest.TestCase):
    pass


class TestPlainNodes(Plain, Nodes, unittest.TestCase):
    pass


class TestNamesOnADisk(OnADisk, Names, unittest.TestCase):
    pass


class TestPlainNames(Plain, Names, unittest.TestCase):
    pass


class TestRefusalsOnADisk(OnADisk, Refusals, unittest.TestCase):
    pass


class TestPlainRefusals(Plain, Refusals, unittest.TestCase):
    pass


if __name__ == "__main__":
    unittest.main()
