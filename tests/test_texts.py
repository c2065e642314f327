"""[11]: texts of stores."""

import functools
import random
import unittest

from sharedunseen.errors import InvalidText
from sharedunseen.stores import Store
from sharedunseen.texts import read_store, show_store
from tests.support import LETTERS, big_store, error_of, many_stores, odd_things

PLAIN = "states 2\noffice\nup: 1/0 1/7\noffice"


def number_of(word):
    """The number that a word writes in decimal digits without leading zeros, or None."""
    if not word or any(sign not in "0123456789" for sign in word) or len(word) > 1 and word[0] == "0":
        return None
    return int(word)


def store_by_words(text):
    """The parts of the store of a text, line by line as [11] tells, or None."""
    if any(not (" " <= sign <= "~" or sign == "\n") for sign in text):
        return None
    lines = [[word for word in line.split(" ") if word] for line in text.split("\n")]
    if len(lines[0]) != 2 or lines[0][0] != "states" or number_of(lines[0][1]) is None:
        return None
    size = number_of(lines[0][1])
    offices = []
    names = []
    for words in lines[1:]:
        if words == ["office"]:
            offices.append([])
            continue
        if not words or not offices or words[0][-1] != ":" or len(words) != size + 1:
            return None
        name = words[0][:-1]
        if not 1 <= len(name) <= 5 or any(sign not in LETTERS for sign in name) or name in names:
            return None
        names.append(name)
        parts = [word.split("/") for word in words[1:]]
        if any(len(part) != 2 or None in map(number_of, part) for part in parts):
            return None
        if any(int(end) >= size or int(told) > 10 ** 12 for end, told in parts):
            return None
        offices[-1].append((name, tuple(int(end) for end, _ in parts), tuple(int(told) for _, told in parts)))
    if not 1 <= size <= 200 or not 2 <= len(offices) <= 8 or len(names) > 40:
        return None
    return size, tuple(tuple(office) for office in offices)


def ends_of_words():
    """What may finish a word that is cut off anywhere."""
    found = ["", ":", "/0", "0/0", "0", "a:", "zz:", "q:"]
    found += ["states 1"[k:] for k in range(8)] + ["office"[k:] for k in range(6)]
    return found


def missing_words(text):
    """How many words may be missing in the last line."""
    lines = text.split("\n")
    size = number_of((lines[0].strip(" ") or "1").split(" ")[-1]) or 1
    words = len([word for word in lines[-1].split(" ") if word])
    return sorted({0, 1} | {max(0, size - words + k) for k in (-1, 0, 1)})


@functools.lru_cache(maxsize=None)
def is_begun(text):
    """Whether some text of a store of few states begins with this."""
    for word in ends_of_words():
        for many in missing_words(text):
            for offices in range(3):
                if store_by_words(text + word + " 0/0" * many + "\noffice" * offices) is not None:
                    return True
    return False


def fault_by_words(text):
    """The `at` of a text that is none, by its words; beginnings of beginnings are beginnings."""
    low, high = 0, len(text) + 1
    # The first `low` signs begin a text, the first `high` do not, if there are so many.
    while high - low > 1:
        middle = (low + high) // 2
        if is_begun(text[:middle]):
            low = middle
        else:
            high = middle
    return low


class ReadTest(unittest.TestCase):

    def fault(self, text):
        return error_of(self, InvalidText, read_store, text).at

    def compare(self, text):
        parts = store_by_words(text)
        if parts is None:
            self.assertEqual(self.fault(text), fault_by_words(text), text)
        else:
            self.assertEqual(read_store(text), Store(*parts))

    def test_there_and_back(self):
        rng = random.Random(61)
        for store in many_stores(62, 200):
            text = show_store(store)
            self.assertEqual(read_store(text), store)
            self.assertEqual(store_by_words(text), (store.size, store.offices))
            wide = "\n".join(" " * rng.randrange(3) + line.replace(" ", " " * rng.randrange(1, 4)) + " " * rng.randrange(3)
                             for line in text.split("\n"))
            self.assertEqual(read_store(text=wide), store)
            self.assertEqual(show_store(store=read_store(wide)), text)

    def test_show(self):
        store = Store(2, ((), (("up", (1, 0), (10 ** 12, 7)), ("a", (0, 0), (0, 0))), ()))
        self.assertEqual(show_store(store), "states 2\noffice\noffice\nup: 1/1000000000000 0/7\na: 0/0 0/0\noffice")

    def test_no_string(self):
        for value in odd_things() + [True, 0, (), {}, ("states 1",), [PLAIN], PLAIN.encode()]:
            self.assertEqual(self.fault(value), -1)

    def test_cut_off(self):
        for text in (PLAIN, "states  20 \n  office  \n up:" + "  1/0" * 20 + "\n office ", "states 1\noffice\noffice"):
            for at in range(len(text)):
                cut = text[:at]
                if store_by_words(cut) is None:
                    self.assertEqual(self.fault(cut), at)
        self.assertEqual(self.fault(""), 0)

    def test_each_sign_changed(self):
        for text in (PLAIN, " states  1 \noffice\nab: 0/10 \n  office \na:  0/3"):
            for at in range(len(text) + 1):
                for sign in " 0129/:\naosz~A":
                    self.compare(text[:at] + sign + text[at:])
                    self.compare(text[:at] + sign + text[at + 1:])
                self.compare(text[:at] + text[at + 1:])

    def test_random_signs(self):
        rng = random.Random(63)
        for _ in range(400):
            text = rng.choice((PLAIN, "states 1\noffice\noffice\no: 0/0", "states 3\noffice\noffice\noff: 0/0 1/1 2/2"))
            signs = list(text)
            for _ in range(rng.randrange(1, 4)):
                sort = rng.randrange(3)
                at = rng.randrange(len(signs))
                if sort == 0:
                    signs[at] = rng.choice("0123 /:\nofficestaup")
                elif sort == 1:
                    del signs[at]
                else:
                    signs.insert(at, rng.choice("0123 /:\nofficestaup"))
            self.compare("".join(signs))

    def test_strange_signs(self):
        for sign in "\t\r\0\x0b\x0c\u00a0\u0661\u00b2\u00e9\u2028\ud800":
            for at in range(len(PLAIN) + 1):
                self.assertEqual(self.fault(PLAIN[:at] + sign + PLAIN[at:]), at)

    def test_sizes(self):
        for size in (1, 2, 9, 10, 19, 20, 99, 100, 199, 200):
            self.assertEqual(read_store(f"states {size}\noffice\noffice").size, size)
        for word, at in (("0", 7), ("01", 7), ("201", 9), ("21 0", 10), ("300", 9), ("2000", 10), ("210", 9), ("-1", 7),
                         ("+1", 7), ("1.0", 8), ("x", 7), ("1_0", 8), ("1 1", 9)):
            self.assertEqual(self.fault(f"states {word}\noffice\noffice"), at)
        self.assertEqual(self.fault("states\noffice"), 6)
        self.assertEqual(self.fault("states \noffice"), 7)
        self.assertEqual(self.fault("states1\noffice"), 6)
        self.assertEqual(self.fault("state 1"), 5)
        self.assertEqual(self.fault("\nstates 1"), 0)

    def test_ends_and_answers(self):
        for size, end, at in ((1, "1", 0), (1, "00", 1), (2, "2", 0), (10, "10", 1), (20, "20", 1), (21, "20", None),
                              (21, "21", 1), (200, "200", 2), (200, "199", None), (9, "8", None), (9, "9", 0), (3, "01", 1)):
            begin = f"states {size}\noffice\noffice\na: "
            text = begin + f"{end}/0" + " 0/0" * (size - 1)
            if at is None:
                self.assertEqual(read_store(text).operation("a")[1][0], int(end))
            else:
                self.assertEqual(self.fault(text), len(begin) + at)
        begin = "states 1\noffice\noffice\na: 0/"
        self.assertEqual(read_store(begin + "1000000000000").operation("a"), ("a", (0,), (10 ** 12,)))
        for word, at in (("1000000000001", 12), ("1000000000010", 12), ("9999999999999", 12), ("10000000000000", 13),
                         ("2000000000000", 12), ("00", 1), ("07", 1), ("-1", 0), ("", 0), (" 0", 0), ("1.5", 1)):
            self.assertEqual(self.fault(begin + word), len(begin) + at, word)

    def test_lines(self):
        self.assertEqual(self.fault(PLAIN + "\n"), len(PLAIN) + 1)
        self.assertEqual(self.fault(PLAIN + "\n  "), len(PLAIN) + 3)
        self.assertEqual(self.fault(PLAIN + "\n\n"), len(PLAIN) + 1)
        self.assertEqual(self.fault(PLAIN + " x"), len(PLAIN) + 1)
        self.assertEqual(read_store(PLAIN + "  "), read_store(PLAIN))
        self.assertEqual(self.fault("states 1\nup: 0/0\noffice"), 9)
        self.assertEqual(self.fault("states 1\noffice\n"), 16)
        self.assertEqual(self.fault("states 1\noffice"), 15)
        self.assertEqual(self.fault("states 1\noffices"), 15)
        self.assertEqual(self.fault("states 1\noffice:"), 15)
        self.assertEqual(self.fault("states 2\noffice\nup: 1/0\noffice"), 23)
        self.assertEqual(self.fault("states 2\noffice\nup: 1/0 1/0 1/0\noffice"), 28)
        self.assertEqual(self.fault("states 2\noffice\nup : 1/0 1/0"), 18)
        self.assertEqual(self.fault("states 2\noffice\nup:1/0 1/0"), 19)
        self.assertEqual(self.fault("states 2\noffice\nup: 1 /0 1/0"), 21)

    def test_names(self):
        begin = "states 1\noffice\noffice\n"
        for name in ("a", "abcde", "offic", "o", "zzzzz", "state"):
            self.assertEqual(read_store(begin + name + ": 0/0").names(), (name,))
        for name, at in (("abcdef", 5), ("A", 0), ("aB", 1), ("", 0), ("1", 0), ("a1", 1), ("offici", 5), ("officx", 5)):
            self.assertEqual(self.fault(begin + name + ": 0/0"), len(begin) + at)

    def test_names_twice(self):
        begin = "states 1\noffice\nabc: 0/0\nabcde: 0/0\noffic: 0/0\noffice\n"
        for name, at in (("abc", 3), ("abcde", 4), ("offic", 5), ("abcdef", 4)):
            self.assertEqual(self.fault(begin + name + ": 0/0"), len(begin) + at)
        for name in ("ab", "abcd", "abcdf", "offi"):
            self.assertIn(name, read_store(begin + name + ": 0/0").names())
        full = "\noffice" * 7
        self.assertEqual(self.fault("states 1\noffice\noffic: 0/0" + full + "\noffic"), 26 + 49 + 5)

    def test_all_names_with_a_beginning_taken(self):
        names = ["abcd"] + ["abcd" + sign for sign in LETTERS]
        begin = "states 1\noffice\n" + "".join(name + ": 0/0\n" for name in names)
        self.assertEqual(self.fault(begin + "abcd"), len(begin) + 3)
        self.assertEqual(self.fault(begin + "abcf"), len(begin) + 4)
        begin = "states 1\noffice\n" + "".join(name + ": 0/0\n" for name in names[:-1])
        self.assertEqual(self.fault(begin + "abcd"), len(begin) + 4)
        self.assertEqual(self.fault(begin + "abcda"), len(begin) + 4)
        self.assertEqual(self.fault(begin + "abcd:"), len(begin) + 4)
        self.assertEqual(len(read_store(begin + "abcdz: 0/0\noffice").names()), 27)

    def test_number_of_offices(self):
        for many in range(2, 9):
            self.assertEqual(len(read_store("states 1" + "\noffice" * many).offices), many)
        text = "states 1" + "\noffice" * 8
        self.assertEqual(self.fault(text + "\noffice"), len(text) + 6)
        self.assertEqual(self.fault(text + "\noffic"), len(text) + 6)
        self.assertEqual(self.fault(text + "\nofficx"), len(text) + 6)
        self.assertEqual(self.fault(text + "\n"), len(text) + 1)
        self.assertEqual(len(read_store(text + "\noffic: 0/0").names()), 1)

    def test_number_of_operations(self):
        names = [LETTERS[k // 26] + LETTERS[k % 26] for k in range(41)]
        lines = "".join("\n" + name + ": 0/0" for name in names[:40])
        self.assertEqual(len(read_store("states 1\noffice" + lines + "\noffice").names()), 40)
        text = "states 1\noffice\noffice" + lines
        self.assertEqual(len(read_store(text).names()), 40)
        self.assertEqual(self.fault(text + "\n"), len(text) + 1)
        self.assertEqual(self.fault(text + "\nbo: 0/0"), len(text) + 1)
        self.assertEqual(self.fault(text + "\no: 0/0"), len(text) + 2)
        self.assertEqual(self.fault(text + "\noffic: 0/0"), len(text) + 6)
        text = "states 1" + "\noffice" * 8 + lines
        self.assertEqual(len(read_store(text + "  ").offices), 8)
        self.assertEqual(self.fault(text + "\n"), len(text))
        self.assertEqual(self.fault(text + "  \noffice"), len(text) + 2)

    def test_big(self):
        store = big_store()
        self.assertEqual(read_store(show_store(store)), store)
        for many in (0, 1, 39, 40):
            store = big_store(200, 2, many)
            self.assertEqual(read_store(show_store(store)), store)


if __name__ == "__main__":
    unittest.main()
