"""Tongues like living ones, chance tongues, and slow ways to the same answers, for the tests."""

import itertools
import random

from numbersay.kinds import Kind
from numbersay.rules import Rule
from numbersay.tongues import Tongue

HUGE = 10 ** 60 - 1


def word(number, text):
    return Rule(number, number, 2, number % 2, number % 2, [text])


def scale(base, high, text, *between):
    """Two rules, as of the hundreds: without a rest, and with one, the texts between being said ahead of it."""
    return [
        Rule(base, high, base, 0, 0, ["Q", text]),
        Rule(base + 1, high, base, 1, base - 1, ["Q", text, *between, "R"]),
    ]


def english():
    """"two hundred and fortythree thousand", to sixty figures; the greatest numbers need too many words."""
    small = "zero one two three four five six seven eight nine ten eleven twelve".split()
    rules = [word(number, text) for number, text in enumerate(small)]
    rules += [
        Rule(13, 19, 10, 3, 9, ["R", "+", "teen"]),
        Rule(20, 99, 10, 0, 0, ["Q", "+", "ty"]),
        Rule(21, 99, 10, 1, 9, ["Q", "+", "ty", "+", "R"]),
        *scale(100, 999, "hundred", "and"),
        *scale(10 ** 3, 10 ** 6 - 1, "thousand"),
        *scale(10 ** 6, 10 ** 9 - 1, "million"),
        *scale(10 ** 9, 10 ** 12 - 1, "billion"),
        *scale(10 ** 12, 10 ** 18 - 1, "trillion"),
        *scale(10 ** 18, 10 ** 36 - 1, "quint"),
        *scale(10 ** 36, HUGE, "myriad", "and"),
    ]
    melts = [
        ("two", "ty", "twenty"), ("ree", "tee", "irtee"), ("ree", "ty", "irty"), ("our", "ty", "orty"),
        ("ve", "tee", "ftee"), ("ve", "ty", "fty"), ("ht", "t", "ht"),
    ]
    return Tongue(HUGE, rules, melts)


def german():
    """The rest ahead of the tens, and all of it tied."""
    small = "null ein zwei drei vier fuenf sechs sieben acht neun zehn elf zwoelf".split()
    rules = [word(number, text) for number, text in enumerate(small)]
    rules += [
        Rule(13, 19, 10, 3, 9, ["R", "+", "zehn"]),
        Rule(20, 99, 10, 0, 0, ["Q", "+", "zig"]),
        Rule(21, 99, 10, 1, 9, ["R", "+", "und", "+", "W"]),
        word(100, "hundert"),
        Rule(100, 999, 100, 0, 0, ["Q", "+", "hundert"]),
        Rule(101, 999, 100, 1, 99, ["W", "+", "und", "+", "R"]),
        Rule(1000, 999999, 1000, 0, 0, ["Q", "+", "tausend"]),
        Rule(1001, 999999, 1000, 1, 999, ["Q", "+", "tausend", "+", "R"]),
        *scale(10 ** 6, HUGE, "millionen"),
    ]
    melts = [("rei", "zi", "reissi"), ("ei", "zig", "anzig"), ("chs", "z", "chz")]
    return Tongue(HUGE, rules, melts)


def latin():
    """What lacks to the next ten is told: 18 is "duo de viginti"."""
    small = "nihil unus duo tres quattuor quinque sex septem octo novem decem".split()
    rules = [word(number, text) for number, text in enumerate(small)]
    rules += [
        word(20, "viginti"),
        Rule(11, 17, 10, 1, 7, ["R", "+", "decim"]),
        Rule(18, 89, 10, 8, 9, ["K", "de", "U"]),
        Rule(30, 90, 10, 0, 0, ["Q", "+", "ginta"]),
        Rule(21, 99, 10, 1, 9, ["W", "et", "R"]),
        *scale(100, 999, "centum"),
        *scale(1000, HUGE, "mille", "et"),
    ]
    return Tongue(HUGE, rules, [("s", "g", "g"), ("x", "g", "xag")])


def danish():
    """By twenties, and by half of the next twenty: 50 is "half three score"."""
    small = "nul en to tre fire fem seks syv otte ni ti elve tolv".split()
    rules = [word(number, text) for number, text in enumerate(small)]
    rules += [
        Rule(13, 19, 10, 3, 9, ["R", "+", "ten"]),
        Rule(40, 99, 10, 1, 9, ["R", "og", "W"]),
        Rule(20, 39, 10, 1, 9, ["R", "og", "W"]),
        word(20, "tyve"),
        word(30, "tredive"),
        Rule(40, 99, 20, 0, 0, ["Q", "sinds"]),
        Rule(40, 99, 20, 10, 10, ["halv", "+", "N", "sinds"]),
        *scale(100, 999, "hundrede", "og"),
        *scale(1000, HUGE, "tusind"),
    ]
    return Tongue(HUGE, rules, [("v", "t", "vt")])


def living():
    return [english(), german(), latin(), danish()]


def telling_numbers(bound):
    """Numbers of all sizes up to bound, many of them beside round ones."""
    numbers = list(range(130))
    for figures in range(2, 61):
        round_one = 10 ** figures
        numbers += [round_one - 1, round_one, round_one + 1, 7 * round_one, 12 * round_one + 80]
    dice = random.Random(7)
    numbers += [dice.randrange(10 ** dice.randrange(3, 30)) for _ in range(60)]
    return sorted({number for number in numbers if number <= bound})


def chance_rule(dice, bound, words):
    """Some rule of numbers up to about bound, mostly of many of them, and of few words."""
    while True:
        low = dice.randrange(dice.choice([1, 10, bound + 1]))
        high = max(low, dice.choice([bound, bound + 2, dice.randrange(bound + 1)]))
        base = dice.choice([2, 3, 4, 5, 7, 10])
        first = dice.choice([0, 0, 1, dice.randrange(base)])
        last = max(first, dice.choice([first, base - 1, base - 1, dice.randrange(base)]))
        signs = dice.sample("QNWURK", dice.choice([0, 1, 1, 2, 2, 3]))
        pieces = signs + dice.choices(words, k=dice.choice([1, 1, 1, 2]))
        dice.shuffle(pieces)
        tied = [pieces[0]]
        for piece in pieces[1:]:
            tied += ["+", piece] if dice.random() < 0.3 else [piece]
        try:
            return Rule(low, high, base, first, last, tied)
        except ValueError:
            pass


def chance_tongue(seed, bound=40, words=("aa", "ab", "aba", "ca")):
    """Some tongue of few words, so that many rows are alike; the least numbers mostly have words of their own."""
    dice = random.Random(seed)
    rules = [word(number, dice.choice(words)) for number in range(10) if dice.random() < 0.7]
    rules += [chance_rule(dice, bound, words) for _ in range(dice.randrange(1, 12))]
    return Tongue(bound, rules)


def chance_text(dice, least, most):
    return "".join(dice.choices("ab", k=dice.randrange(least, most + 1)))


def chance_melts(dice):
    melts = []
    for _ in range(dice.randrange(6)):
        ahead, behind = chance_text(dice, 1, 3), chance_text(dice, 1, 3)
        melts.append((ahead, behind, chance_text(dice, len(ahead) + len(behind) - 1, 6)))
    return melts


def chance_kind(dice, title, words):
    """Some kind by which about half of the words are turned."""
    turns = [(text, chance_text(dice, 2, 4)) for text in words if dice.random() < 0.5]
    return Kind(title, chance_text(dice, 2, 3), turns)


def sounding_tongue(seed):
    """Some tongue of few short words, of which many melt into one another, with the kinds "which" and "part"."""
    dice = random.Random(seed)
    words = sorted({chance_text(dice, 2, 4) for _ in range(dice.randrange(2, 6))})
    plain = chance_tongue(seed, dice.choice([0, 5, 20, 40, 90]), words)
    kinds = [chance_kind(dice, "which", words), chance_kind(dice, "part", [])]
    return Tongue(plain.bound, plain.rules, chance_melts(dice), kinds)


def with_kinds(tongue, *kinds):
    """The tongue with these kinds."""
    return Tongue(tongue.bound, tongue.rules, tongue.melts, list(kinds))


def altered(dice, text):
    """A text with a letter more, less or put otherwise, and with a blank more or all blanks left out."""
    place = dice.randrange(len(text))
    ahead, behind = text[:place], text[place + 1:]
    return [
        ahead + behind, ahead + dice.choice("ab") + text[place:], ahead + dice.choice("ab ") + behind,
        ahead + " " + text[place:], text.replace(" ", ""), " " + text, text + " ",
    ]


def slow_row(tongue, number, ahead=0):
    """The row by the words of point 2.1, or None; ahead is how many rules have been taken on the way here."""
    if ahead > 40 or not 0 <= number <= tongue.bound:
        return None
    for rule in tongue.rules:
        rest = number % rule.base
        if rule.low <= number <= rule.high and rule.first <= rest <= rule.last:
            row = slow_parts(tongue, rule, number, ahead)
            return row if row is not None and len([text for text in row if text != "+"]) <= 40 else None
    return None


def slow_parts(tongue, rule, number, ahead):
    row = []
    for piece in rule.pieces:
        part = slow_part(rule, piece, number)
        texts = [piece] if part is None else slow_row(tongue, part, ahead + 1)
        if texts is None:
            return None
        row += texts
    return row


def slow_part(rule, piece, number):
    base, rest = rule.base, number % rule.base
    whole = number - rest
    parts = {"Q": whole // base, "N": whole // base + 1, "W": whole, "U": whole + base, "R": rest, "K": base - rest}
    return parts.get(piece)


def slow_free_rows(tongue, number, most):
    """All rows by the words of point 2.4, as a set of tuples."""
    found = set()
    if most < 1 or not 0 <= number <= tongue.bound:
        return found
    for rule in tongue.rules:
        if rule.low <= number <= rule.high and rule.first <= number % rule.base <= rule.last:
            choices = []
            for piece in rule.pieces:
                part = slow_part(rule, piece, number)
                choices.append({(piece,)} if part is None else slow_free_rows(tongue, part, most - 1))
            for texts in itertools.product(*choices):
                row = tuple(itertools.chain(*texts))
                if len(row) - row.count("+") <= most:
                    found.add(row)
    return found


def slow_said(tongue, row):
    """The text of a row by the words of points 3.1 and 3.2."""
    done, now, tie = "", "", False
    for text in row:
        if text == "+":
            tie = True
        elif tie:
            now, tie = slow_melted(tongue, now, text), False
        else:
            done, now = (done + now + " " if now else ""), text
    return done + now


def slow_melted(tongue, text, behind_it):
    for ahead, behind, made in tongue.melts:
        if text[-len(ahead):] == ahead and behind_it[:len(behind)] == behind:
            return text[:len(text) - len(ahead)] + made + behind_it[len(behind):]
    return text + behind_it


def slow_names(tongue):
    """The names of all numbers of a tongue that have one."""
    rows = {number: slow_row(tongue, number) for number in range(tongue.bound + 1)}
    return {number: slow_said(tongue, row) for number, row in rows.items() if row is not None}


def slow_kind_names(tongue, kind):
    """The names of a kind by the words of point 6.1, of all numbers of a tongue that have one."""
    names = {}
    for number in range(tongue.bound + 1):
        row = slow_row(tongue, number)
        if row is not None:
            seconds = [second for first, second in kind.turns if first == row[-1]]
            row[len(row) - len(seconds):] = seconds or ["+", kind.ending]
            names[number] = slow_said(tongue, row)
    return names


def bearing(names, text):
    """The numbers, in their order, that have this text as their name."""
    return [number for number, name in names.items() if name == text]
