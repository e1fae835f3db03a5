"""Tables as texts, and keys as bytes."""

from rowclash.arguments import check_table
from rowclash.checks import KEY_BOUND, is_ascending, is_key
from rowclash.errors import NotBytes, NotKey, NotText
from rowclash.tables import MOST_ROWS, Table

KEY_DIGITS = 30
KEY_LENGTH = 13
NONE = "none"


def is_number(text, digits):
    """Whether it is an integer with at most so many digits, as it is written."""
    told = text.removeprefix("-")
    if len(told) > digits or not told.isascii() or not told.isdigit():
        return False
    return str(int(text)) == text


def listed(words):
    """The words with a space between two, or the word for none."""
    return " ".join(words) if words else NONE


def table_text(table):
    """The text of the table, its rows in ascending order."""
    check_table(table)
    return listed([f"{key}>{new}" for key, new in table.rows])


def read_table(text):
    """The table with exactly this text."""
    if not isinstance(text, str):
        raise NotText("a string is asked for")
    words = [] if text == NONE else text.split(" ")
    if len(words) > MOST_ROWS:
        raise NotText("a table has at most 40 rows")
    rows = [read_row(word) for word in words]
    if not is_ascending([row[0] for row in rows]):
        raise NotText("the rows are not in ascending order")
    return Table(*rows)


def read_row(word):
    """The pair (key, new key) with this text."""
    key, _, new = word.partition(">")
    if not is_number(key, KEY_DIGITS) or not is_number(new, KEY_DIGITS):
        raise NotText("a row is written as its key, the sign > and its new key")
    return int(key), int(new)


def key_bytes(key):
    """The bytes of the key, which compare with others as the keys do."""
    if not is_key(key):
        raise NotKey("a key is an integer with at most 30 digits")
    return (key + KEY_BOUND).to_bytes(KEY_LENGTH, "big")


def bytes_key(data):
    """The key with these bytes."""
    if not isinstance(data, bytes) or len(data) != KEY_LENGTH:
        raise NotBytes("the bytes of a key are 13")
    key = int.from_bytes(data, "big") - KEY_BOUND
    if not is_key(key):
        raise NotBytes("these are the bytes of a number with more than 30 digits")
    return key
