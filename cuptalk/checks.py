"""What the arguments of the package have to be."""

from cuptalk.errors import InvalidClaims, InvalidNumber, InvalidPlayer, InvalidResults, InvalidSize

LARGEST_SIZE = 6
MOST_ITEMS = 200


def is_integer(thing):
    """Whether any object is an integer."""
    # Python counts booleans among the integers, the document does not.
    return isinstance(thing, int) and not isinstance(thing, bool)


def is_size(thing):
    """Whether any object is the size of a cup."""
    return is_integer(thing) and 0 <= thing <= LARGEST_SIZE


def is_player(thing, size):
    """Whether any object is a player of the cups of a size."""
    return is_integer(thing) and 0 <= thing < 1 << size


def is_number(thing, size):
    """Whether any object is a number of wins in the cups of a size."""
    return is_integer(thing) and 0 <= thing <= size


def is_pair(thing):
    """Whether any object is a tuple of two integers."""
    return isinstance(thing, tuple) and len(thing) == 2 and is_integer(thing[0]) and is_integer(thing[1])


def is_result(thing, size):
    """Whether any object is a result between players of the cups of a size."""
    if not is_pair(thing) or thing[0] == thing[1]:
        return False
    return is_player(thing[0], size) and is_player(thing[1], size)


def is_claim(thing, size):
    """Whether any object is a claim about a player of the cups of a size."""
    return is_pair(thing) and is_player(thing[0], size) and is_number(thing[1], size)


def is_short_list(thing):
    """Whether any object is a list that is not too long for a talk."""
    return isinstance(thing, list) and len(thing) <= MOST_ITEMS


def check_size(size):
    if not is_size(size):
        raise InvalidSize("a size is an integer from 0 to 6")


def check_results(results, size):
    if not is_short_list(results) or not all([is_result(item, size) for item in results]):
        raise InvalidResults("results are a list of at most 200 tuples of two different players")


def check_claims(claims, size):
    if not is_short_list(claims) or not all([is_claim(item, size) for item in claims]):
        raise InvalidClaims("claims are a list of at most 200 tuples of a player and a number of wins")


def check_player(player, size):
    if not is_player(player, size):
        raise InvalidPlayer("a player is an integer from 0 on, below the number of players")


def check_number(number, size):
    if not is_number(number, size):
        raise InvalidNumber("a number of wins is an integer from 0 to the size")
