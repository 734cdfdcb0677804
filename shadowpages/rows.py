"""Rows of tables: words made of a page's number and marks."""

from shadowpages.bounds import MARKS, PAGES
from shadowpages.errors import NoRow
from shadowpages.words import is_below

PRESENT = 1
WRITABLE = 2
KERNEL = 4
TOUCHED = 8
SOILED = 16


def row_of(page, marks):
    if not is_below(page, PAGES):
        raise NoRow("a row's page is no whole number from 0 to 2 ** 40 - 1")
    if not is_below(marks, MARKS):
        raise NoRow("a row's marks are no whole number from 0 to 255")
    return page * MARKS + marks


def page_of(row):
    return row // MARKS


def marks_of(row):
    return row % MARKS


def has(row, marks):
    return (row & marks) == marks


def put(row, marks):
    return row | marks


def taken(row, marks):
    return row & ~marks
