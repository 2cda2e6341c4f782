"""Stacks: rolls are laid on top of each other and taken from the top."""

from math import comb

from fittingpasts.errors import BadMove, NoMoves, UnlikeNames


def _play(moves):
    """Return the list of the rolls that lie on the stack at the end, and the list of what each roll was laid on."""
    stack = []
    laid = []
    known = {}
    for at, (word, roll) in enumerate(moves):
        if word == "put" and roll not in known:
            laid.append((roll, stack[-1] if stack else ""))
            known[roll] = True
            stack.append(roll)
        elif word == "take" and stack and stack[-1] == roll:
            stack.pop()
        else:
            raise BadMove(at)
    return stack, laid


def play(moves):
    """Return the tuple of the rolls that lie on the stack at the end, from the bottom to the top."""
    stack, _ = _play(moves)
    return tuple(stack)


def rests(moves):
    """Return the list of the pairs (roll, under), one for each put; the ground is the empty string."""
    _, laid = _play(moves)
    return laid


def _is_rearranged(put, taken):
    """Return True if the second sequence is a rearrangement of the first."""
    return sorted(list(put)) == sorted(list(taken))


def stack_moves(put, taken):
    """Return the list of the moves of one stack for which the rolls are put and taken in these orders."""
    if not _is_rearranged(put, taken):
        raise UnlikeNames()
    moves = []
    stack = []
    many = 0
    for roll in taken:
        while roll not in stack:
            moves.append(("put", put[many]))
            stack.append(put[many])
            many += 1
        if stack[-1] != roll:
            # Puts end with a roll that is taken at once, so the last one that was put is taken already.
            raise NoMoves(roll, stack[-1], put[many - 1])
        moves.append(("take", stack.pop()))
    return moves


def judge_no_moves(put, taken, triple):
    """Return True if the rolls of the triple show that no stack takes the rolls in this order."""
    if not _is_rearranged(put, taken) or not all([roll in put for roll in triple]):
        return False
    low, middle, high = triple
    rises = put.index(low) < put.index(middle) < put.index(high)
    return rises and taken.index(high) < taken.index(low) < taken.index(middle)


def taken_lines(put):
    """Yield every tuple in which one stack gives back the rolls, ascending by their indexes in `put`."""
    rolls = tuple(put)
    yield from _taken_behind(rolls, (), ())


def _taken_behind(unput, stack, taken):
    """Yield these tuples for the rolls that are not put yet, those on the stack, and those taken."""
    if not unput and not stack:
        yield taken
    # The rolls on the stack have smaller indexes than those that are not put yet.
    if stack:
        below = stack[:-1]
        longer = (*taken, stack[-1])
        yield from _taken_behind(unput, below, longer)
    for at, roll in enumerate(unput):
        rest = unput[at + 1:]
        higher = (*stack, *unput[:at])
        longer = (*taken, roll)
        yield from _taken_behind(rest, higher, longer)


def count_taken(many):
    """Return in how many ways one stack gives back so many rolls."""
    # These counts are the Catalan numbers, which have this closed form.
    return comb(2 * many, many) // (many + 1)


def _keeps(line, pairs):
    """Return True if in each pair the first name stands before the second one in the line."""
    return all([line.index(first) < line.index(second) for first, second in pairs])


def first_taken(put, order):
    """Return the first tuple in which one stack gives back the rolls and which is a line of the order, or None."""
    if not _is_rearranged(put, order.names):
        raise UnlikeNames()
    pairs = order.pairs()
    for taken in taken_lines(put):
        if _keeps(taken, pairs):
            return taken
    return None
