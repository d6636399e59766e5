"""Polynomials: lists of tuples (power, number), powers rising, no number 0."""

# The letter v, less its back.
LESS_BACK = [(-1, -1), (1, 1)]


def as_polynomial(numbers):
    """The polynomial of a dict of numbers by powers, of which some may be 0."""
    return [(power, numbers[power]) for power in sorted(numbers) if numbers[power] != 0]


def plus(one, other):
    """The sum of two polynomials."""
    numbers = dict(one)
    for power, number in other:
        numbers[power] = numbers.get(power, 0) + number
    return as_polynomial(numbers)


def times(one, other):
    """The product of two polynomials."""
    numbers = {}
    for power, number in one:
        for high, many in other:
            numbers[power + high] = numbers.get(power + high, 0) + number * many
    return as_polynomial(numbers)


def turned(one):
    """The polynomial with each power its contrary."""
    return [(-power, number) for power, number in reversed(one)]
