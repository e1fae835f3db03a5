"""What functions ask of their arguments: each raises the exception of its argument."""

from rowclash.checks import is_order, is_set_of_rows
from rowclash.errors import Missing, NotOrder, NotRows, NotTable
from rowclash.tables import Table


def check_table(table):
    if not isinstance(table, Table):
        raise NotTable("a table is asked for")


def check_key(table, key):
    if key not in table:
        raise Missing("this is not the key of a row")


def check_set_of_rows(table, rows):
    if not is_set_of_rows(table, rows):
        raise NotRows("a set of rows is an ascending tuple of keys of rows of the table")


def check_order(table, order):
    if not is_order(table, order):
        raise NotOrder("an order is a tuple that has each key of the table once")
