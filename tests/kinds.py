"""What the tests ask of every answer: its form, and that it is made of plain values."""

import inspect


def is_whole(value):
    return type(value) is int


def is_plain(value):
    """Whole numbers, texts, True, False, None, and tuples of such."""
    if type(value) is tuple:
        return all(is_plain(part) for part in value)
    return value is None or type(value) in (int, str, bool)


def arguments(function):
    """The names of a function's arguments, those with a default as pairs."""
    told = []
    for parameter in inspect.signature(function).parameters.values():
        bare = parameter.default is inspect.Parameter.empty
        told.append(parameter.name if bare else (parameter.name, parameter.default))
    return told
