"""What all modules ask of values: integers, and tuples of such."""


def is_whole(value):
    """Whether the value is an integer; True and False are none."""
    return isinstance(value, int) and not isinstance(value, bool)


def is_below(value, limit):
    """Whether the value is an integer from 0 to limit - 1."""
    return is_whole(value) and 0 <= value < limit


def are_below(value, limit):
    """Whether the value is a tuple of integers from 0 to limit - 1."""
    return isinstance(value, tuple) and all([is_below(each, limit) for each in value])


def is_ascending(value, limit):
    """Whether the value is an ascending tuple of integers from 0 to limit - 1."""
    if not are_below(value, limit):
        return False
    return all([low < high for low, high in zip(value, value[1:])])


def are_all_once(value, many):
    """Whether the value is a tuple of 0 to many - 1, each once, in any sequence."""
    return are_below(value, many) and sorted(value) == list(range(many))


def are_bits(value, many):
    """Whether the value is a tuple of so many bits."""
    return are_below(value, 2) and len(value) == many


def are_pairs(value, limit):
    """Whether the value is an ascending tuple of pairs of integers below the limit, the lesser one ahead."""
    if not isinstance(value, tuple):
        return False
    if not all([is_ascending(pair, limit) and len(pair) == 2 for pair in value]):
        return False
    return all([low < high for low, high in zip(value, value[1:])])


def ones_of(number, many):
    """The ascending tuple of the indices below many of the bits 1 of the number, 2 ** 0 having the index 0."""
    return tuple([k for k in range(many) if number >> k & 1])


def number_with(ones):
    """The number that has just these bits 1: `ones_of` back."""
    return sum([1 << k for k in ones])
