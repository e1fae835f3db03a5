"""Sessions: keys that are stored, and deeds that change them and can be undone."""

from rowclash.checks import are_different_keys, is_integer
from rowclash.errors import Collision, Held, Missing, NotDeed, NotKeys, NotRule, NothingDone, TooMany
from rowclash.rules import Abort, Rule, Undoes
from rowclash.scans import statement
from rowclash.tables import MOST_ROWS


def check_keys(keys):
    """Raise an exception if these are not different keys, at least one."""
    if not are_different_keys(keys) or not keys:
        raise NotKeys("one or more keys are asked for, each once")


def check_rule(rule):
    if not isinstance(rule, Rule):
        raise NotRule("a rule is asked for")


def is_deed(thing):
    """Whether it is a tuple with the word of a deed and all parts behind it, whatever most of them are."""
    if not isinstance(thing, tuple) or not thing:
        return False
    if thing[0] == "put" or thing[0] == "drop":
        return len(thing) == 2 and isinstance(thing[1], tuple)
    return thing[0] == "change" and len(thing) == 5


class Session:
    """At most 40 different keys, and the rule by which statements change them."""

    def __init__(self, *keys, rule=None):
        if not are_different_keys(keys):
            raise NotKeys("the keys are keys, each of them once")
        if rule is not None:
            check_rule(rule)
        if len(keys) > MOST_ROWS:
            raise TooMany(len(keys), MOST_ROWS)
        self._stored = tuple(sorted(keys))
        self._rule = Abort() if rule is None else rule
        # What was stored before each deed that can be undone.
        self._before = []

    @property
    def stored(self):
        """The keys in ascending order."""
        return self._stored

    @property
    def rule(self):
        """The rule by which statements are executed."""
        return self._rule

    def obey(self, rule):
        """Give the session another rule, which is no deed."""
        check_rule(rule)
        self._rule = rule

    def put(self, *keys):
        """Store these keys, too."""
        check_keys(keys)
        for key in keys:
            if key in self._stored:
                raise Held(key)
        many = len(self._stored) + len(keys)
        if many > MOST_ROWS:
            raise TooMany(many, MOST_ROWS)
        self.store(self._stored + keys)

    def drop(self, *keys):
        """Store these keys no longer."""
        check_keys(keys)
        if not all([key in self._stored for key in keys]):
            raise Missing("one of the keys is not stored")
        self.store([key for key in self._stored if key not in keys])

    def change(self, formula, *, scan="up", low=None, high=None):
        """Execute the statement for the stored keys by the rule, and return its outcome."""
        table, order = statement(self._stored, formula, scan=scan, low=low, high=high)
        rule = self._rule
        outcome = rule(table, order)
        if outcome.stop == ():
            self.store(outcome.held)
            return outcome
        if not isinstance(rule, Undoes):
            self.store(outcome.held)
        row, holder = outcome.stop
        raise Collision(row, holder) from Held(table[row])

    def store(self, keys):
        """Store just these keys from now on: that is a deed that can be undone."""
        self._before.append(self._stored)
        self._stored = tuple(sorted(keys))

    def undo(self):
        """Undo the last deed that was done and not undone."""
        if not self._before:
            raise NothingDone("there is no deed that can be undone")
        self._stored = self._before.pop()

    def attempt(self, *deeds):
        """Do all of the deeds, as one deed, or none of them; return how many they are."""
        if not all([is_deed(deed) for deed in deeds]):
            raise NotDeed("a deed is a tuple of put, drop or change and all that follows")
        # If one of them raises an exception, then it has been the twin's alone.
        trial = self.twin()
        for deed in deeds:
            trial.carry_out(deed)
        self.store(trial.stored)
        return len(deeds)

    def carry_out(self, deed):
        """Do one deed that is given as a tuple."""
        if deed[0] == "change":
            _, formula, scan, low, high = deed
            self.change(formula, scan=scan, low=low, high=high)
            return
        word, keys = deed
        if word == "put":
            self.put(*keys)
        else:
            self.drop(*keys)

    def twin(self):
        """Another session that is the same now, and on which this one has no effect later."""
        other = Session(*self._stored, rule=self._rule)
        other._before = list(self._before)
        return other

    def __contains__(self, thing):
        return is_integer(thing) and thing in self._stored

    def __len__(self):
        return len(self._stored)

    def __eq__(self, other):
        return isinstance(other, Session) and self._stored == other._stored and self._rule == other._rule

    def __repr__(self):
        return f"Session({len(self._stored)} keys, {self._rule.WORD})"
