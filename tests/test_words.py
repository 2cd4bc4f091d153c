"""[36], [37]: surjections and covering."""

import itertools
import math
import unittest

from deepedge.words import covering, surjections


class WordsTest(unittest.TestCase):
    def test_small(self):
        self.assertEqual([surjections(3, 2), surjections(0, 0), surjections(1, 2), covering(3, 2, 1)], [6, 1, 0, 7])
        self.assertEqual(surjections(letters=2, length=4), 14)
        self.assertEqual(covering(needed=0, letters=3, length=2), 9)

    def test_small_words_one_by_one(self):
        for letters in range(5):
            for length in range(6):
                words = list(itertools.product(range(letters), repeat=length))
                every = [word for word in words if len(set(word)) == letters]
                self.assertEqual(surjections(length, letters), len(every))
                for needed in range(letters + 1):
                    found = [word for word in words if set(range(needed)) <= set(word)]
                    self.assertEqual(covering(length, letters, needed), len(found))

    def test_no_length_and_no_letters(self):
        self.assertEqual([surjections(0, letters) for letters in range(41)], [1] + [0] * 40)
        self.assertEqual([surjections(length, 0) for length in range(61)], [1] + [0] * 60)
        self.assertEqual([covering(length, 0, 0) for length in range(61)], [1] + [0] * 60)
        self.assertEqual([covering(0, 40, needed) for needed in range(41)], [1] + [0] * 40)

    def test_inclusion_and_exclusion(self):
        for length in (0, 1, 2, 17, 39, 40, 41, 59, 60):
            for letters in (0, 1, 2, 16, 39, 40):
                for needed in {0, letters // 3, letters}:
                    told = sum(
                        (-1) ** i * math.comb(needed, i) * (letters - i) ** length for i in range(needed + 1)
                    )
                    self.assertEqual(covering(length, letters, needed), told)
                self.assertEqual(surjections(length, letters), covering(length, letters, letters))
                self.assertEqual(covering(length, letters, 0), letters ** length)

    def test_as_many_letters_as_the_length(self):
        for count in range(41):
            self.assertEqual(surjections(count, count), math.factorial(count))
            self.assertEqual(surjections(count, count + 1), 0)
            self.assertEqual(covering(count, 40, count), math.factorial(count))

    def test_what_no_word_can_have(self):
        self.assertEqual([surjections(-1, 0), surjections(-1, 2), covering(-1, 2, 0), covering(3, 2, 3)], [0, 0, 0, 0])

    def test_kinds(self):
        for found in (surjections(0, 0), surjections(60, 40), covering(60, 40, 40), covering(0, 0, 0), surjections(1, 2)):
            self.assertIs(type(found), int)


if __name__ == "__main__":
    unittest.main()
