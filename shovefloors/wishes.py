"""Wishes: what a book is asked to keep true of its shapes."""

from shovefloors.arguments import is_passed_lattice, is_within
from shovefloors.lattices import holds_each_once, lattices_of
from shovefloors.places import least_hues

MOST_WISHED = 100


def is_wished(value):
    """Whether a value is a number that can be wished."""
    return is_within(value, 0, MOST_WISHED)


def is_wish(value):
    """Whether a value has the form of a wish, whatever stands in it for the name."""
    if not isinstance(value, tuple) or len(value) < 2 or not isinstance(value[0], str):
        return False
    word = value[0]
    more = value[2:]
    if word in ("fills", "stuck", "whole"):
        return len(more) == 0
    if word == "by":
        return len(more) == 1 and is_passed_lattice(more[0])
    if word == "many":
        return len(more) == 1 and is_wished(more[0])
    return word == "hues" and len(more) == 2 and is_passed_lattice(more[0]) and is_wished(more[1])


def is_true_of(wish, shape):
    """Whether a wish holds if this shape stands under its name."""
    word = wish[0]
    if word == "fills":
        return len(lattices_of(shape)) > 0
    if word == "stuck":
        return len(lattices_of(shape)) == 0
    if word == "by":
        return holds_each_once(wish[2], shape.cells)
    if word == "whole":
        return shape.is_whole
    if word == "many":
        return len(lattices_of(shape)) >= wish[2]
    return holds_each_once(wish[2], shape.cells) and least_hues(shape, wish[2]) <= wish[3]
