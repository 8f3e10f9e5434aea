"""Lists of digits with a base for each: how many there are, and their indices. No argument is checked here."""


def number_of_lists(bases):
    """Return how many lists of digits there are, one digit from 0 on below each base."""
    result = 1
    for base in bases:
        result = result * base
    return result


def digits_of(index, bases):
    """Return the digits of an index, one for each base; the last one counts single steps."""
    digits = []
    rest = index
    for base in reversed(bases):
        rest, digit = divmod(rest, base)
        digits.append(digit)
    digits.reverse()
    return digits


def index_of_digits(digits, bases):
    """Return the index with these digits."""
    index = 0
    for digit, base in zip(digits, bases):
        index = index * base + digit
    return index
