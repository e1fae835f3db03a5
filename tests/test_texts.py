import re
import unittest

from itertools import product
from random import Random

from model import all_small_tables, large_tables
from rowclash.errors import NotBytes, NotKey, NotTable, NotText
from rowclash.tables import Table
from rowclash.texts import bytes_key, key_bytes, read_table, table_text
from samples import ANYTHING, MOST, NO_KEYS, NO_TABLES, line_of_rows


class Texts(unittest.TestCase):
    """Promise 120: table_text, read_table."""

    TEXTS = (
        ((), "none"), (((1, 2),), "1>2"), (((2, 3), (1, 2)), "1>2 2>3"), (((0, 0),), "0>0"),
        (((-1, 5), (-2, -7), (10, -10)), "-2>-7 -1>5 10>-10"), (((MOST, -MOST),), f"{'9' * 30}>-{'9' * 30}"),
        (((-MOST, MOST), (MOST, 0)), f"-{'9' * 30}>{'9' * 30} {'9' * 30}>0"),
        (line_of_rows(40), " ".join(f"{key}>{key + 1}" for key in range(1, 41))),
    )

    def test_both_ways(self):
        for rows, text in self.TEXTS:
            self.assertEqual(table_text(Table(*rows)), text)
            self.assertEqual(read_table(text), Table(*rows))
        for rows in [*all_small_tables(3), *large_tables(5, 120)]:
            text = " ".join(f"{key}>{new}" for key, new in rows) or "none"
            self.assertEqual(table_text(Table(*rows)), text)
            self.assertEqual(read_table(text), Table(*rows))

    def test_by_name(self):
        self.assertEqual(table_text(table=Table((1, 2))), "1>2")
        self.assertEqual(read_table(text="1>2"), Table((1, 2)))

    def test_a_new_table_each_time(self):
        one = read_table("1>2")
        one[1] = 5
        self.assertEqual(read_table("1>2"), Table((1, 2)))

    def test_no_text_of_a_table(self):
        large, row = "1" + "0" * 30, "1>2"
        for text in (
            "", " ", "  ", "None", "NONE", "none ", " none", "none none", "none 1>2", "1>2 none", "1", ">", "1>", ">2",
            "1>2>3", "1>>2", "1<2", "1=2", "1> 2", "1 >2", "1 > 2", f"{row} ", f" {row}", "1>2  2>3", "1>2,2>3",
            "1>2\n", "\n1>2", "1>2\n2>3", "1>2\t2>3", "1>2, 2>3", "2>3 1>2", "1>2 1>2", "1>2 1>3", "1>2 3>4 2>3",
            "01>2", "1>02", "00>2", "1>00", "-0>2", "1>-0", "-01>2", "+1>2", "1>+2", "--1>2", "1>--2", "1->2", "1>2-",
            "- 1>2", "->2", "1>-", "1.0>2", "1_0>2", "1e1>2", "0x1>2", "a>b", "1>b", "\u0661>2", "1>\u0662", "\uff11>2",
            "\u00b2>3", "1>\u00b2", f"{large}>2", f"1>{large}", f"-{large}>2", f"1>-{large}", "1>" + "9" * 2900,
            "9" * 2900 + ">1", "10>1 9>1", "-1>1 -2>1", "0>1 -1>1", " ".join(f"{key}>0" for key in range(41)),
            "Table(1>2)", "(1, 2)", "1>2;", "1>2 ", "1>2 x",
        ):
            with self.subTest(text=text), self.assertRaises(NotText):
                read_table(text)

    def test_other_values(self):
        for thing in ANYTHING + (0, 1, b"1>2", b"none", ["1>2"], ("1>2",), ((1, 2),), Table((1, 2)), None, {"1": "2"}):
            if not isinstance(thing, str) or thing != "1>2":
                with self.subTest(thing=thing), self.assertRaises(NotText):
                    read_table(thing)
        for thing in NO_TABLES:
            with self.subTest(thing=thing), self.assertRaises(NotTable):
                table_text(thing)

    NUMBER = "(?:0|-?[1-9][0-9]{0,29})"
    TEXT = re.compile(f"{NUMBER}>{NUMBER}(?: {NUMBER}>{NUMBER})*")

    def assert_read(self, text):
        """Return whether it is the text of a table."""
        if text != "none" and not self.TEXT.fullmatch(text):
            with self.assertRaises(NotText, msg=text):
                read_table(text)
            return False
        rows = [tuple(int(number) for number in word.split(">")) for word in text.split(" ")] if text != "none" else []
        keys = [row[0] for row in rows]
        if keys != sorted(set(keys)):
            with self.assertRaises(NotText, msg=text):
                read_table(text)
            return False
        self.assertEqual(read_table(text), Table(*rows))
        return True

    def test_all_short_texts(self):
        found = sum(self.assert_read("".join(signs)) for many in range(7) for signs in product("120-> ", repeat=many))
        self.assertGreater(found, 500)

    def test_longer_texts(self):
        chance = Random(121)
        numbers = [*map(str, range(-9, 30)), "01", "-0", "", "-", "00", "9" * 30, "-" + "9" * 30, "1" + "0" * 30]
        found = 0
        for _ in range(20000):
            words = [f"{chance.choice(numbers)}>{chance.choice(numbers)}" for _ in range(chance.randrange(1, 4))]
            found += self.assert_read(chance.choice((" ", " ", " ", "  ", ">")).join(words))
        self.assertGreater(found, 500)


class Bytes(unittest.TestCase):
    """Promise 120: key_bytes, bytes_key."""

    KEYS = (-MOST, -MOST + 1, -10 ** 29, -257, -256, -255, -1, 0, 1, 255, 256, 257, 10 ** 29, MOST - 1, MOST)

    def test_both_ways(self):
        for key in self.KEYS:
            data = key_bytes(key)
            self.assertIsInstance(data, bytes)
            self.assertEqual(data, (key + 10 ** 30).to_bytes(13, "big"))
            self.assertEqual(bytes_key(data), key)
        self.assertEqual(key_bytes(-MOST), b"\x00" * 12 + b"\x01")
        self.assertEqual(key_bytes(0).hex(), "0c9f2c9cd04674edea40000000")
        self.assertEqual(key_bytes(-1).hex(), "0c9f2c9cd04674edea3fffffff")
        self.assertEqual(bytes_key(bytes.fromhex("0c9f2c9cd04674edea40000000")), 0)

    def test_keys_compare_as_their_bytes_do(self):
        for one, other in product(self.KEYS, repeat=2):
            self.assertIs(one < other, key_bytes(one) < key_bytes(other))

    def test_by_name(self):
        self.assertEqual(bytes_key(data=key_bytes(key=-5)), -5)

    def test_no_key(self):
        for thing in NO_KEYS:
            with self.subTest(thing=thing), self.assertRaises(NotKey):
                key_bytes(thing)

    def test_no_bytes_of_a_key(self):
        least, greatest = key_bytes(-MOST), key_bytes(MOST)
        for data in (
            b"", b"\x00", b"\x00" * 12, b"\x00" * 13, b"\xff" * 13, b"\x00" * 14, b"\x01" * 1000, least[1:], least[:-1],
            b"\x00" + least, least + b"\x00", greatest[:-1], greatest + b"\x00", b"\x00" + greatest,
            (2 * 10 ** 30).to_bytes(13, "big"), (2 * 10 ** 30 + 1).to_bytes(13, "big"),
        ):
            with self.subTest(data=data), self.assertRaises(NotBytes):
                bytes_key(data)

    def test_other_values(self):
        for thing in ANYTHING + (0, 13, "0" * 13, [0] * 13, tuple(key_bytes(0)), list(key_bytes(0)), key_bytes(0).hex()):
            with self.subTest(thing=thing), self.assertRaises(NotBytes):
                bytes_key(thing)


if __name__ == "__main__":
    unittest.main()
