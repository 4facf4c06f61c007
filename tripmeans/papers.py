"""Papers for many checks at once: in each of them a wall is to follow from walls and stricts (part 5).

A check is a triple (walls, stricts, wall); its paper has the four items behind the word of a paper "weights".
"""

from tripmeans.walls import found_follows, is_follow_paper


def judge_checks(width, checks):
    """("weights", papers) with one for each check, or ("point", point) at which a wall does not follow."""
    papers = []
    for walls, stricts, wall in checks:
        found = found_follows(width, walls, stricts, wall)
        if found[0] == "point":
            return found
        papers.append(found[1:])
    return ("weights", tuple(papers))


def are_follow_papers(width, checks, thing):
    """Whether any value is a tuple of right papers, one for each check, in order."""
    if not isinstance(thing, tuple) or len(thing) != len(checks):
        return False
    for (walls, stricts, wall), paper in zip(checks, thing):
        if not is_follow_paper(width, walls, stricts, wall, paper):
            return False
    return True
