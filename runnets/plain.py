"""Tests of plain values, whatever they are."""


def is_whole(value, least, most):
    """Whether it is a whole number from least up to most."""
    # True and False are told from 1 and 0 by their class alone.
    return type(value) is int and least <= value <= most


def is_row(value, least, most):
    """Whether it is a tuple of from least up to most elements."""
    return type(value) is tuple and least <= len(value) <= most
