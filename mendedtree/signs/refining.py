"""Which states of a deterministic automaton are alike."""


def blocks_of(arrows, marks):
    """The number of a block for each state, so that states are alike exactly if they are in one block.

    `arrows` has a list of states for each state, all of one length, with -1 for no state. States with different
    marks are not alike.
    """
    numbers = {}
    blocks = [numbers.setdefault(mark, len(numbers)) for mark in marks]
    members = [[] for _ in numbers]
    for state, block in enumerate(blocks):
        members[block].append(state)
    before = _before(arrows)
    changed = list(range(len(arrows)))
    while changed:
        moves = _moves(arrows, blocks, members, changed)
        changed = []
        for block, states in moves:
            _move(states, block, blocks, members)
            changed.extend(states)
        changed = sorted(set([source for state in changed for source in before[state]]))
    return blocks


def _before(arrows):
    """For each state, the states from which an arrow leads to it."""
    before = [[] for _ in arrows]
    for state, targets in enumerate(arrows):
        for target in targets:
            if target >= 0:
                before[target].append(state)
    return before


def _moves(arrows, blocks, members, changed):
    """The lists of states that leave their blocks, as pairs (block, states)."""
    touched = {}
    for state in changed:
        touched.setdefault(blocks[state], []).append(state)
    moves = []
    for block, states in touched.items():
        groups = {}
        for state in states:
            groups.setdefault(_seen_from(arrows, blocks, state), []).append(state)
        # The states whose arrows did not change are still alike, so one of them stands for all.
        rest = _without(members[block], states)
        if rest:
            groups.setdefault(_seen_from(arrows, blocks, rest[0]), []).extend(rest)
        # The greatest group stays, so that a state does not move too often.
        for group in sorted(list(groups.values()), key=len)[:-1]:
            moves.append((block, group))
    return moves


def _seen_from(arrows, blocks, state):
    return tuple([blocks[target] if target >= 0 else -1 for target in arrows[state]])


def _without(states, others):
    left = {state: True for state in others}
    return [state for state in states if state not in left]


def _move(states, block, blocks, members):
    """Moves states from a block to a new one."""
    members[block] = _without(members[block], states)
    for state in states:
        blocks[state] = len(members)
    members.append(states)
