"""TURNs: rows of the numbers from 0 on, each once, that go up and down in turn."""

from powerrests.plain import are_whole


def is_turn(thing):
    """Whether the plain thing is a TURN."""
    return has_each_once(thing) and turns_within(thing)


def has_each_once(thing):
    """Whether the plain thing is a tuple of the numbers 0 to n - 1, each once, for some n."""
    return are_whole(thing) and sorted(thing) == list(range(len(thing)))


def turns_within(numbers):
    """Whether each number with two neighbours is greater than both or less than both."""
    for k in range(1, len(numbers) - 1):
        if (numbers[k - 1] < numbers[k]) != (numbers[k + 1] < numbers[k]):
            return False
    return True


def goes_down(thing):
    """Whether the plain thing is a TURN that goes down."""
    return is_turn(thing) and (len(thing) < 2 or thing[0] > thing[1])


def turns_down(n):
    """The rising list of all TURNs of n that go down."""
    beginnings = [()]
    # Those that are lengthened rise, and so do the numbers behind each, hence the longer ones rise too.
    for taken in range(n):
        beginnings = [ahead + (number,) for ahead in beginnings for number in range(n) if may_follow(ahead, number)]
    return beginnings


def may_follow(ahead, number):
    """Whether the number may stand behind the beginning of a TURN that goes down."""
    if ahead == ():
        return True
    falls = len(ahead) % 2 == 1
    return number not in ahead and (number < ahead[-1]) == falls
