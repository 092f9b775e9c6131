"""Checks of what is passed that several files share; each one raises the error of its parameter."""

from ringdepth.basics import is_count
from ringdepth.errors import InvalidNumber


def check_number(value):
    """Raises InvalidNumber unless the value is a COUNT."""
    if not is_count(value):
        raise InvalidNumber(value)
