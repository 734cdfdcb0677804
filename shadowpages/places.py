"""Places: numbers made of the three parts outer, inner and cell."""

from shadowpages.bounds import PARTS, PLACES
from shadowpages.errors import NoPlace
from shadowpages.words import is_below


def place_of(outer, inner, cell):
    for part in (outer, inner, cell):
        if not is_below(part, PARTS):
            raise NoPlace("a place's part is no whole number from 0 to 7")
    return (outer * PARTS + inner) * PARTS + cell


def parts_of(place):
    number = number_of(place)
    return (number // PARTS, number % PARTS, place % PARTS)


def number_of(place):
    if not is_below(place, PLACES):
        raise NoPlace("a place is no whole number from 0 to 511")
    return place // PARTS
