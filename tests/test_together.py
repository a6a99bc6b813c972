"""What holds over several modules: the same told in two ways has the same ends."""

from surecounts.chains import Chain
from surecounts.ends import ends, fitting, greatest, least
from surecounts.errors import Contradictory, InvalidFact
from surecounts.facts import Facts
from surecounts.joins import greatest_along, greatest_join, least_along
from surecounts.papers import is_greatest, is_least, lower, upper
from surecounts.questions import Question
from surecounts.spreads import Spread
from surecounts.stars import Star
from surecounts.tables import Table
from tests.cases import LONG, Case
from tests.samples import any_facts, any_question, any_spread, dice, sum_of_products, true_facts, wheres


def found(facts, question):
    """The ends, or the word none if no table fits."""
    try:
        return ends(facts, question)
    except Contradictory:
        return "none"


def turned_where(where):
    if where[0] == "cell":
        return ("cell", where[2], where[1])
    return {"all": ("all",), "left": ("right", *where[1:]), "right": ("left", *where[1:])}[where[0]]


def renumbered(where, lefts, rights):
    """A where with other numbers for the values."""
    if where[0] == "cell":
        return ("cell", lefts[where[1]], rights[where[2]])
    if where[0] == "all":
        return where
    numbers = lefts if where[0] == "left" else rights
    return (where[0], tuple(sorted(numbers[value] for value in where[1])))


def any_samples(seed, many):
    """Facts of all kinds, some of which contradict each other, each with a question."""
    given = dice(seed)
    for at in range(many):
        left, right = given.randint(1, 5), given.randint(1, 5)
        make = any_facts if at % 3 == 0 else true_facts
        facts = make(given, left, right, given.randint(0, 10), given.choice([3, 10 ** 50]))
        yield (given, facts, any_question(given, left, right, given.choice([2, 10 ** 20])))


def times(end, number):
    return None if end is None else end * number


class Ends(Case):

    def test_prices_of_two_questions_added_up(self):
        shown = 0
        for given, facts, question in any_samples(71, 80):
            if fitting(facts) is None:
                continue
            other = any_question(given, facts.left, facts.right, 5)
            for function, price_number in ((greatest, upper), (least, lower)):
                one, two = function(facts, question), function(facts, other)
                if one[0] is None or two[0] is None:
                    continue
                prices = tuple(a + b for a, b in zip(one[2], two[2]))
                number = price_number(facts, question + other, prices)
                shown += 1
                self.assertIsNotNone(number)
                low, high = ends(facts, question + other)
                if function is greatest:
                    self.assertGreaterEqual(number, high)
                else:
                    self.assertLessEqual(number, low)
        self.assertGreater(shown, 20)

    def test_a_fact_more(self):
        for given, facts, question in any_samples(72, 80):
            before = found(facts, question)
            more = facts.listed()
            more.insert(given.randint(0, len(more)), (("all",), given.randint(0, 9), 10 ** given.randint(1, 51)))
            behind = found(Facts(facts.left, facts.right, more), question)
            if before == "none":
                self.same(behind, "none")
            elif behind != "none":
                self.assertTrue(before[0] is None or (behind[0] is not None and behind[0] >= before[0]))
                self.assertTrue(before[1] is None or (behind[1] is not None and behind[1] <= before[1]))

    def test_columns_exchanged(self):
        for _, facts, question in any_samples(73, 80):
            turned = Facts(facts.right, facts.left, [(turned_where(fact[0]), *fact[1:]) for fact in facts.listed()])
            self.same(found(turned, question.turned()), found(facts, question))

    def test_values_numbered_otherwise(self):
        for given, facts, question in any_samples(74, 80):
            lefts, rights = list(range(facts.left)), list(range(facts.right))
            given.shuffle(lefts)
            given.shuffle(rights)
            other = Facts(facts.left, facts.right,
                          [(renumbered(fact[0], lefts, rights), *fact[1:]) for fact in facts.listed()])
            weights = tuple(tuple(question.weight(lefts.index(a), rights.index(b)) for b in range(facts.right))
                            for a in range(facts.left))
            self.same(found(other, Question(weights)), found(facts, question))

    def test_facts_in_another_order(self):
        for given, facts, question in any_samples(75, 80):
            other = facts.listed()
            given.shuffle(other)
            self.same(found(Facts(facts.left, facts.right, other), question), found(facts, question))

    def test_a_question_times_a_number(self):
        for _, facts, question in any_samples(76, 60):
            once = found(facts, question)
            for number in (0, 1, 3, -1, -2, LONG):
                if once == "none":
                    self.same(found(facts, question * number), "none")
                    continue
                low, high = once if number > 0 else (once[1], once[0])
                expected = (times(low, number), times(high, number)) if number != 0 else (0, 0)
                self.same(found(facts, question * number), expected)

    def test_all_integers_between_occur(self):
        given = dice(77)
        checked = 0
        for _ in range(40):
            facts = true_facts(given, 3, 3, 6, 4)
            for where in wheres(given, 3, 3, 1):
                low, high = ends(facts, Question.at(3, 3, where))
                for number in range(low, (low + 5 if high is None else high) + 1):
                    try:
                        exact = Facts(3, 3, [*facts.listed(), (where, number, number)])
                    except InvalidFact:
                        continue
                    self.assertIsNotNone(fitting(exact))
                    checked += 1
                for number in ([] if low == 0 else [low - 1]) + ([] if high is None else [high + 1]):
                    try:
                        exact = Facts(3, 3, [*facts.listed(), (where, number, number)])
                    except InvalidFact:
                        continue
                    self.assertIsNone(fitting(exact))
        self.assertGreater(checked, 60)

    def test_all_limits_times_a_number(self):
        for _, facts, question in any_samples(78, 60):
            once = found(facts, question)
            for number in (2, 7, LONG):
                given = [(where, low * number, times(high, number)) for where, low, high in facts.listed()]
                expected = "none" if once == "none" else (times(once[0], number), times(once[1], number))
                self.same(found(Facts(facts.left, facts.right, given), question), expected)

    def test_what_is_returned_is_accepted(self):
        for _, facts, question in any_samples(79, 60):
            if fitting(facts) is not None:
                self.same(is_greatest(facts, question, greatest(facts, question)), True)
                self.same(is_least(facts, question, least(facts, question)), True)
                self.same(is_greatest(facts, question, least(facts, question)),
                          ends(facts, question)[0] == ends(facts, question)[1] is not None
                          and upper(facts, question, least(facts, question)[2]) == ends(facts, question)[1])


class Spreads(Case):

    def as_facts(self, spread):
        """Facts of a table with one right value that tell the same as a spread without different values told."""
        given = [(("all",), *spread.rows)]
        given.extend([(("left", (value,)), 0, spread.most) for value in range(spread.size)])
        return Facts(spread.size, 1, given)

    def spreads(self, seed):
        given = dice(seed)
        for _ in range(60):
            size = given.randint(1, 8)
            low, high = sorted(given.choice([given.randint(0, 9), given.randint(0, LONG)]) for _ in range(2))
            most = given.choice([None, max(1, high // size), given.randint(1, high + 1)])
            if most is None or low <= size * most:
                yield (given, Spread(size, (low, high), (0, size), most))

    def test_first_values(self):
        for _, spread in self.spreads(81):
            facts = self.as_facts(spread)
            for many in range(1, spread.size + 1):
                question = Question.at(spread.size, 1, ("left", tuple(range(many))))
                self.same((spread.least_in(many)[0], spread.greatest_in(many)[0]), ends(facts, question))

    def test_along_keys(self):
        for given, spread in self.spreads(82):
            keys = tuple(given.randint(0, 9) for _ in range(spread.size))
            question = Question(tuple((key,) for key in keys))
            self.same((least_along(keys, spread)[0], greatest_along(keys, [spread])[0]),
                      ends(self.as_facts(spread), question))

    def test_stars_of_ones(self):
        given = dice(83)
        for _ in range(60):
            sizes = [given.randint(1, 4) for _ in range(given.randint(1, 3))]
            ones, others = (tuple(any_spread(given, size, 9) for size in sizes) for _ in range(2))
            star = Star(((1,) * sum(sizes),), (ones, others))
            joins = [greatest_join(one, other) for one, other in zip(ones, others)]
            for members in ((1, 2), (0, 1, 2)):
                number, (first, second) = star.greatest(members)
                self.same(number, sum(join[0] for join in joins))
                self.same(sum_of_products(first, second), number)


class Chains(Case):

    def chains(self, seed):
        given = dice(seed)
        for _ in range(40):
            many = given.randint(2, 6)
            sizes = [given.randint(1, 5) for _ in range(many + 1)]
            kept = given.randrange(many)
            whole = [Table(tuple(tuple(given.randint(0, 9) for _ in range(right)) for _ in range(left)))
                     for left, right in zip(sizes, sizes[1:])]
            facts = true_facts(given, sizes[kept], sizes[kept + 1], 6, 9)
            yield (tuple(whole[:kept]), facts, tuple(whole[kept + 1:]))

    def joined(self, one, other):
        return Table(tuple(tuple(sum(one.count(a, x) * other.count(x, b) for x in range(one.right))
                                 for b in range(other.right)) for a in range(one.left)))

    def test_neighbors_as_one_table(self):
        for before, facts, behind in self.chains(84):
            chain = Chain(before, facts, behind)
            expected = ends(facts, chain.question(0, len(chain)))
            while len(before) > 1:
                before = (self.joined(before[0], before[1]), *before[2:])
                other = Chain(before, facts, behind)
                self.same(ends(facts, other.question(0, len(other))), expected)
            while len(behind) > 1:
                behind = (*behind[:-2], self.joined(behind[-2], behind[-1]))
                other = Chain(before, facts, behind)
                self.same(ends(facts, other.question(0, len(other))), expected)

    def test_from_the_left_or_from_the_right(self):
        for before, facts, behind in self.chains(85):
            turned = Facts(facts.right, facts.left, [(turned_where(fact[0]), *fact[1:]) for fact in facts.listed()])
            chain = Chain(before, facts, behind)
            other = Chain(tuple(table.turned() for table in behind[::-1]), turned,
                          tuple(table.turned() for table in before[::-1]))
            self.same(other.kept, len(chain) - 1 - chain.kept)
            for start in range(len(chain)):
                for stop in range(start + 1, len(chain) + 1):
                    mirror = (len(chain) - stop, len(chain) - start)
                    if start <= chain.kept < stop:
                        self.same(ends(turned, other.question(*mirror)), ends(facts, chain.question(start, stop)))
                    else:
                        self.same(other.whole(*mirror), chain.whole(start, stop))
