"""What numbers, texts and letters are: each function takes any value and returns a bool."""


def is_integer(value):
    """Whether a value is an int that is not a bool."""
    return isinstance(value, int) and not isinstance(value, bool)


def is_count(value):
    """Whether a value is an INTEGER that is at least 0."""
    return is_integer(value) and value >= 0


def is_text(value):
    """Whether a value is a string of letters from a to z, perhaps empty."""
    if not isinstance(value, str):
        return False
    # An empty string is neither alphabetic nor lower-case to Python.
    return value == "" or (value.isascii() and value.isalpha() and value.islower())


def are_letters(value):
    """Whether a value is a string of one to three different letters from a to z, rising."""
    return is_text(value) and 1 <= len(value) <= 3 and sorted(set(value)) == list(value)
