"""When two pieces of data are the same."""


def same_data(one, other):
    """True if both are equal and have truths and integers at the same places."""
    waiting = [(one, other)]
    while waiting:
        left, right = waiting.pop()
        if not type(left) is type(right):
            return False
        if type(left) is tuple:
            if len(left) != len(right):
                return False
            waiting.extend(list(zip(left, right)))
        elif left != right:
            return False
    return True


def is_integer(value):
    """True for integers alone, of which the truths are none."""
    return type(value) is int
