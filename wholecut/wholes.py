"""Whole numbers: what is one, what are several of them, and their products added up."""


def is_whole(thing):
    # For Python True and False are of int; here they are no numbers.
    return isinstance(thing, int) and not isinstance(thing, bool)


def is_within(thing, least, greatest):
    return is_whole(thing) and least <= thing <= greatest


def are_within(things, least, greatest):
    return all([is_within(thing, least, greatest) for thing in things])


def products_sum(numbers, others):
    return sum([number * other for number, other in zip(numbers, others)])
