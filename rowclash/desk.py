"""A desk, at which a session is told what to do in lines of words."""

from rowclash.errors import NotLine
from rowclash.rules import Rule
from rowclash.scans import SCANS, Formula, safe_scans
from rowclash.sessions import Session
from rowclash.texts import KEY_DIGITS, is_number, listed

SMALL_DIGITS = 15
RULES = ("abort", "fail", "ignore", "replace")
NO_BOUND = "*"
# What stands behind the first word of a line; behind put and drop there are keys.
FORMS = {
    "keys": (),
    "rule": ("rule",),
    "change": ("number", "number", "scan", "bound", "bound"),
    "undo": (),
    "safe": ("number", "number", "bound", "bound"),
}


def is_part(word, kind):
    """Whether the word is of this kind."""
    if kind == "rule":
        return word in RULES
    if kind == "scan":
        return word in SCANS
    return is_number(word, SMALL_DIGITS) or kind == "bound" and word == NO_BOUND


def is_line(words):
    """Whether these words are a line by their form."""
    word, *rest = words
    if word == "put" or word == "drop":
        return len(rest) > 0 and all([is_number(part, KEY_DIGITS) for part in rest])
    if word not in FORMS or len(rest) != len(FORMS[word]):
        return False
    return all([is_part(part, kind) for part, kind in zip(rest, FORMS[word])])


def words_of(line):
    """The words of a line."""
    if not isinstance(line, str) or not is_line(line.split(" ")):
        raise NotLine("this is no line for a desk")
    return line.split(" ")


def formula_of(times, plus):
    """The formula with these numbers, given as words."""
    return Formula(int(times), int(plus))


def bound_of(word):
    """The bound that the word says, or None."""
    return None if word == NO_BOUND else int(word)


class Desk:
    """Keeps a session, at first without keys."""

    def __init__(self):
        self._session = Session()

    def say(self, line):
        """Do what the line says, and return the answer."""
        word, *rest = words_of(line)
        if word == "keys":
            return listed([str(key) for key in self._session.stored])
        if word == "change":
            return self.change(*rest)
        if word == "safe":
            return self.safe(*rest)
        self.obey(word, rest)
        return "ok"

    def change(self, times, plus, scan, low, high):
        """Execute a statement; the answer is how many rows moved, and how many are left."""
        formula = formula_of(times, plus)
        outcome = self._session.change(formula, scan=scan, low=bound_of(low), high=bound_of(high))
        return f"{len(outcome.moved)} {len(outcome)}"

    def safe(self, times, plus, low, high):
        """The scans with which such a statement never meets a conflict."""
        formula = formula_of(times, plus)
        return listed(list(safe_scans(formula, low=bound_of(low), high=bound_of(high))))

    def obey(self, word, rest):
        """Do what the session returns nothing of."""
        if word == "rule":
            self._session.obey(Rule.named(rest[0]))
        elif word == "undo":
            self._session.undo()
        else:
            keys = [int(part) for part in rest]
            if word == "put":
                self._session.put(*keys)
            else:
                self._session.drop(*keys)
