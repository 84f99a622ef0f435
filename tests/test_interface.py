"""The interface: each name stands in its module, with its arguments."""

import importlib
import inspect
import unittest

from powerrests.desk import Desk

NAMES = {
    "errors": "NoShare(word) NoRest(number,prime) NoRow(word,place) NoPaper(word,place) NoTurn(word,thing) "
              "NoText(word,place) NoLine(row)",
    "shares": "is_share(thing) lowest(top,bottom) plus(one,other) minus(one,other) times(one,other) "
              "over(one,other) power_of(one,n) is_less(one,other) floor_of(one) whole_of(one)",
    "choices": "choose(n,k) choices_of(n)",
    "primes": "is_prime(thing) primes_to(n) parts_of(n)",
    "restsof": "rest_of(number,p) rest_of_power(a,n,p) inverse_of(a,p)",
    "polys": "is_poly(thing) power_poly(n) value_at(poly,share) poly_plus(one,other) poly_times(one,other) "
             "poly_scaled(poly,share) poly_moved(poly,share) poly_mirrored(poly,share) poly_stretched(poly,share) "
             "poly_step(poly) poly_back(poly) poly_pair(poly) mean_of(poly)",
    "differences": "columns_of(values) next_value(values) poly_through(values) poly_of_backs(numbers) backs_of(poly)",
    "row": "step_of(shares) row_to(n) number_at(n)",
    "rowjudge": "lets_row(thing)",
    "sums": "summed(poly) sum_below(poly,many) power_sum(n,many) even_sum(n,many) odd_sum(n,many) "
            "spaced_sum(n,first,step,many)",
    "sumjudge": "lets_summed(poly,thing)",
    "rowpolys": "row_poly(n) spread(poly,m)",
    "polyjudge": "lets_row_poly(n,thing)",
    "signs": "signed(poly) turn_poly(n) signed_below(poly,many)",
    "signjudge": "lets_signed(poly,thing)",
    "parts": "like_powers(parts,m) products_of(parts) products_by_powers(powers) powers_by_products(products,m)",
    "beneath": "primes_beneath(n) whole_at(n) beneath_paper(n)",
    "beneathjudge": "lets_beneath(n,share,thing)",
    "rests": "share_rest(share,p) row_rest(n,p) far_rest(n,p) rest_paper(n,p)",
    "restjudge": "cut_sum(n,p,a) lets_rest(n,p,rest,thing)",
    "turns": "is_turn(thing) goes_down(thing) turns_down(n)",
    "tables": "row_by_steps(row) row_by_sums(row) table_to(n) turns_of(n)",
    "tablejudge": "lets_table(thing)",
    "places": "turn_at(n,place) place_of(thing)",
    "ties": "turns_by_row(n) number_by_turns(n) turns_by_poly(n)",
    "texts": "share_text(share) shares_text(shares) read_shares(thing) read_poly(thing)",
    "claims": "is_claim(thing)",
    "judge": "lets_claim(claim,thing)",
    "judging": "judged(claim)",
    "desk": "Desk()",
}


class Interface(unittest.TestCase):
    def test_names_and_arguments(self):
        for module, listed in NAMES.items():
            for each in listed.split():
                name, _, rest = each.partition("(")
                with self.subTest(f"{module}.{name}"):
                    found = getattr(importlib.import_module(f"powerrests.{module}"), name)
                    arguments = list(inspect.signature(found).parameters)
                    self.assertEqual(arguments, [each for each in rest.rstrip(")").split(",") if each])

    def test_a_desk_is_told_rows(self):
        self.assertEqual(list(inspect.signature(Desk().say).parameters), ["row"])


if __name__ == "__main__":
    unittest.main()
