"""How far texts for one unknown agree, and which comes first, at all counts."""

from countscribe.errors import InvalidList
from countscribe.keptorder import agree, compare
from countscribe.runs import least_run
from countscribe.texts import kept, need_text_along, size

MOST_RANKED = 5


def agreement(one, other):
    """The least run for how many letters two texts have in common at their beginnings."""
    need_text_along(one)
    need_text_along(other)
    since = settled_count([one, other])
    many = [agree(kept(one, [count]), kept(other, [count])) for count in range(since + 2)]
    return least_run(many[:since], many[since], many[since + 1] - many[since])


def settled_count(texts):
    """A count behind which what two of some texts have in common grows evenly, and their order stays."""
    return 1 + max([size(text) for text in texts])


def order_along(one, other):
    """The least run that tells which of two texts comes first: -1 if `one` does, 0 if they are the same, else 1."""
    need_text_along(one)
    need_text_along(other)
    since = settled_count([one, other])
    signs = [compare(kept(one, [count]), kept(other, [count])) for count in range(since + 1)]
    return least_run(signs[:since], signs[since], 0)


def ranks_along(texts):
    """The least runs that tell how many texts of a list come before each of them."""
    if not isinstance(texts, list) or not 1 <= len(texts) <= MOST_RANKED:
        raise InvalidList(texts)
    for item in texts:
        need_text_along(item)
    since = settled_count(texts)
    rows = [ranks_of([kept(text, [count]) for text in texts]) for count in range(since + 1)]
    return [least_run([row[at] for row in rows[:since]], rows[since][at], 0) for at in range(len(texts))]


def ranks_of(words):
    """For each kept word of a list how many of the others come before it, or are the same and stand ahead of it."""
    ranks = [0] * len(words)
    for behind in range(len(words)):
        for ahead in range(behind):
            later = behind if compare(words[ahead], words[behind]) <= 0 else ahead
            ranks[later] += 1
    return ranks
