"""Whose turn it is."""


def in_turn(numbers, last):
    if last is None:
        return list(numbers)
    above = [number for number in numbers if number > last]
    return above + [number for number in numbers if number <= last]
