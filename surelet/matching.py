"""Matchings between left copies and right copies of the same items, with lines from left copies to right ones."""


def greatest_matching(lines):
    """For each right copy the left copy that is its partner, or None; lines has the right copies of each left one."""
    partners = [None for _ in lines]
    for left in range(len(lines)):
        find_partner(lines, partners, left, {})
    return partners


def find_partner(lines, partners, left, tried):
    """Finds a partner for a left copy, if need be by finding another one for a copy that has one; returns whether."""
    for right in lines[left]:
        if right not in tried:
            tried[right] = True
            if partners[right] is None or find_partner(lines, partners, partners[right], tried):
                partners[right] = left
                return True
    return False


def reached_copies(lines, partners):
    """The left and the right copies, as dicts, that are reached from left copies without a partner.

    The way to the right goes along lines, the way to the left to the partner.
    """
    coming = [left for left in range(len(lines)) if left not in partners]
    lefts = {left: True for left in coming}
    rights = {}
    while len(coming) > 0:
        reached = coming.pop()
        for right in lines[reached]:
            rights[right] = True
            # In a greatest matching each right copy that is reached has a partner.
            partner = partners[right]
            if partner not in lefts:
                lefts[partner] = True
                coming.append(partner)
    return lefts, rights
