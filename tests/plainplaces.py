"""Open places, found plainly: by their definition in [28], and by the rule of [29]."""

from itertools import product

from countscribe.texts import joined


def all_splits(by_length, most):
    """For each text, as its pieces, all pairs of texts that are joined to it, by the length of the first one."""
    found = {}
    for own in by_length:
        for behind in by_length:
            if all([a + b <= top for a, b, top in zip(own, behind, most)]):
                for one in by_length[own]:
                    for other in by_length[behind]:
                        splits = found.setdefault(repr(joined(one, other).pieces()), {})
                        splits.setdefault(own, []).append((one, other))
    return found


def plain_places(text):
    """All open places of a text in order, as [29] tells them one by one."""
    many, pieces = text.many(), text.pieces()
    bare, words, forms, starts = "", [], [], []
    for word, form in pieces:
        if any(form[1:]):
            words.append(word)
            forms.append(form)
            starts.append(len(bare))
        else:
            bare += word
    reach = []
    for word, start in zip(words, starts):
        x = start
        while x < len(bare) and bare[x] == word[(x - start) % len(word)]:
            x += 1
        reach.append(x)
    count = len(words)
    r = [None] + [min(reach[i:]) for i in range(count)] + [len(bare)]
    s = [0] + starts
    w = [(0,) * (many + 1)]
    for word, form in zip(words, forms):
        w.append(tuple([a + len(word) * b for a, b in zip(w[-1], form)]))
    found = []
    for i in range(count + 1):
        for x in range(s[i], r[i + 1] + 1):
            found.append((w[i][0] + x,) + w[i][1:])
    for i in range(1, count + 1):
        for x in range(s[i], r[i] + 1):
            for h in product(*[range(number + 1) for number in forms[i - 1]]):
                if h != forms[i - 1] and any(h):
                    place = tuple([a + len(words[i - 1]) * b for a, b in zip(w[i - 1], h)])
                    found.append((place[0] + x,) + place[1:])
    return sorted(found)


def is_at_most(one, other):
    return all([a <= b for a, b in zip(one, other)])
