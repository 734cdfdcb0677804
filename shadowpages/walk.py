"""The walk over tables in two levels, the marks put along it, and what rights let."""

from shadowpages.bounds import PLACES
from shadowpages.errors import Fault
from shadowpages.places import parts_of
from shadowpages.rows import KERNEL, PRESENT, SOILED, TOUCHED, WRITABLE, has, page_of, put


def look(store, root, place, write, kernel):
    if place >= PLACES:
        raise Fault("far", place, 0)
    if not store.has(root):
        raise Fault("beyond", place, 0)
    parts = parts_of(place)
    top = (root, parts[0])
    top_row = store.read(top[0], top[1])
    check_row(store, top_row, write, kernel, place, 1)
    low = (page_of(top_row), parts[1])
    low_row = store.read(low[0], low[1])
    check_row(store, low_row, write, kernel, place, 2)
    return (top, low, page_of(low_row), rights_of(top_row, low_row))


def check_row(store, row, write, kernel, place, level):
    if not has(row, PRESENT):
        raise Fault("absent", place, level)
    if not store.has(page_of(row)):
        raise Fault("beyond", place, level)
    if has(row, KERNEL) and not kernel:
        raise Fault("kernel", place, level)
    if write and not has(row, WRITABLE):
        raise Fault("fixed", place, level)


def rights_of(top_row, low_row):
    # Rights bear the bits of the marks that they come from: both rows' writable, either's kernel, the low one's soiled.
    return (top_row & low_row & WRITABLE) | ((top_row | low_row) & KERNEL) | (low_row & SOILED)


def mark(store, trail, write):
    put_marks(store, trail[0], TOUCHED)
    # Only now is the low row read: it may lie at the same spot.
    put_marks(store, trail[1], put(TOUCHED, SOILED) if write else TOUCHED)
    return put(trail[3], SOILED) if write else trail[3]


def put_marks(store, spot, marks):
    row = store.read(spot[0], spot[1])
    if not has(row, marks):
        store.write(spot[0], spot[1], put(row, marks))


def lets(rights, write, kernel):
    if has(rights, KERNEL) and not kernel:
        return False
    return not write or has(rights, put(WRITABLE, SOILED))
