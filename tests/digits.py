"""A second way to the answers: walks along the digits of a number."""


def digits_of(base, number):
    """The digits of a number, the lowest one first; [] for 0."""
    digits = []
    while number > 0:
        number, digit = divmod(number, base)
        digits.append(digit)
    return digits


def number_of(base, digits):
    number = 0
    for digit in reversed(digits):
        number = number * base + digit
    return number


def walked_level(base, number):
    for place, digit in enumerate(digits_of(base, number)):
        if digit != 0:
            return place
    return None


def walked_parent(base, number):
    digits = digits_of(base, number)
    for place, digit in enumerate(digits):
        if digit != 0:
            digits[place] = 0
            return number_of(base, digits)
    return None


def walked_chain(base, number):
    chain = []
    while number is not None:
        chain.append(number)
        number = walked_parent(base, number)
    return chain
