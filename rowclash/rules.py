"""Rules: what a database does when a row collides with another one.

A rule is made of two aspects: whether the statement goes on behind a
conflict, and what happens at the conflict.
"""

from rowclash.arguments import check_order, check_table
from rowclash.errors import NotRule
from rowclash.outcomes import Outcome
from rowclash.runs import Run


class Rule:
    """What all rules are. Each has a WORD, and gets `goes_on` and `settle` from its aspects."""

    @staticmethod
    def named(word):
        """The rule with this word."""
        for rule in (Abort(), Fail(), Ignore(), Replace()):
            if word == rule.WORD:
                return rule
        raise NotRule("the words of the rules are abort, fail, ignore and replace")

    def __call__(self, table, order):
        """Execute the statement, and return its outcome; the table stays as it is."""
        check_table(table)
        check_order(table, order)
        run = Run(table.rows)
        stop = self.visit_all(run, order)
        return Outcome(table.rows, stop, run.held_by_rows())

    def visit_all(self, run, order):
        """Visit the rows; return the pair (row, holder) at which the statement stops, or ()."""
        for row in order:
            holder = run.visit(row)
            if holder is not None:
                self.settle(run, row, holder)
                if not self.goes_on():
                    return row, holder
        return ()

    def goes_on(self):
        """Whether the statement goes on behind a conflict."""
        raise NotImplementedError("an aspect says this")

    def settle(self, run, row, holder):
        """Do what the rule does when the row finds the holder in its way."""
        raise NotImplementedError("an aspect says this")

    def __eq__(self, other):
        return isinstance(other, Rule) and self.WORD == other.WORD

    def __repr__(self):
        return f"{self.WORD.capitalize()}()"


class Stops(Rule):
    """The statement stops at a conflict."""

    def goes_on(self):
        return False


class Continues(Rule):
    """The statement goes on behind a conflict."""

    def goes_on(self):
        return True


class Undoes(Rule):
    """At a conflict each row gets its first key again."""

    def settle(self, run, row, holder):
        run.start_again()


class Leaves(Rule):
    """At a conflict all rows stay as they are."""

    def settle(self, run, row, holder):
        pass


class Removes(Rule):
    """At a conflict the holder is removed, and the visited row moves."""

    def settle(self, run, row, holder):
        run.take_out(holder)
        run.move(row)


class Abort(Stops, Undoes):
    """The statement stops, and nothing has changed."""

    WORD = "abort"


class Fail(Stops, Leaves):
    """The statement stops, and what has moved stays moved."""

    WORD = "fail"


class Ignore(Continues, Leaves):
    """The row stays where it is."""

    WORD = "ignore"


class Replace(Continues, Removes):
    """The row takes the place of the holder."""

    WORD = "replace"
