"""Point 4: the refusals, their fields, and that each is caught as itself alone."""

import unittest

from listenfield import errors
from things import Like, Other

FIELDS = {
    "Wrong": ("at",),
    "NoLog": ("at",),
    "TooMany": ("most",),
    "NoNumber": ("number",),
    "NoAnswer": ("number", "window"),
    "Narrow": (),
    "Loose": (),
    "Unfit": (),
    "NoText": (),
    "NoRow": (),
}


class Wordless:
    """A thing that can't be told in words."""

    def __str__(self):
        raise RuntimeError("no words")

    __repr__ = __str__

    def __format__(self, form):
        raise RuntimeError("no words")


def made(name, thing):
    """A refusal of this name, made of the thing for each field."""
    return getattr(errors, name)(*[thing] * len(FIELDS[name]))


class Refusals(unittest.TestCase):

    def test_there_are_just_ten_and_their_base(self):
        found = {name for name, thing in vars(errors).items() if isinstance(thing, type)}
        self.assertEqual(found, set(FIELDS) | {"FieldError"})

    def test_stand_straight_under_field_error(self):
        self.assertEqual(errors.FieldError.__bases__, (ValueError,))
        for name in FIELDS:
            self.assertEqual(getattr(errors, name).__bases__, (errors.FieldError,), name)

    def test_each_is_caught_as_its_own_class_its_base_and_value_error(self):
        for name in FIELDS:
            for caught in (getattr(errors, name), errors.FieldError, ValueError):
                with self.assertRaises(caught):
                    raise made(name, 3)

    def test_none_is_caught_as_another_one(self):
        for name in FIELDS:
            refusal = made(name, 3)
            for other in FIELDS:
                self.assertEqual(isinstance(refusal, getattr(errors, other)), name == other, (name, other))

    def test_field_error_is_none_of_them(self):
        for name in FIELDS:
            self.assertNotIsInstance(errors.FieldError("words"), getattr(errors, name))

    def test_field_error_is_made_of_a_text(self):
        self.assertEqual(str(errors.FieldError("words")), "words")
        with self.assertRaises(ValueError):
            raise errors.FieldError("words")

    def test_fields_keep_the_very_thing(self):
        things = [0, -1, 10 ** 30, True, None, "text", b"x", [1, [2]], (1,), {1: 2}, {1}, 1.5,
                  Other(), Other, Like(), Wordless(), ValueError("no")]
        for name, fields in FIELDS.items():
            for thing in things:
                refusal = made(name, thing)
                for field in fields:
                    self.assertIs(getattr(refusal, field), thing)

    def test_no_answer_keeps_its_two_things_apart(self):
        number, window = Other(), Other()
        refusal = errors.NoAnswer(number, window)
        self.assertIs(refusal.number, number)
        self.assertIs(refusal.window, window)

    def test_fields_are_those_told_and_no_others(self):
        for name, fields in FIELDS.items():
            self.assertEqual(tuple(vars(made(name, 3))), fields, name)

    def test_are_made_of_as_many_things_as_told(self):
        for name, fields in FIELDS.items():
            for many in range(4):
                if many != len(fields):
                    with self.assertRaises(TypeError):
                        getattr(errors, name)(*[3] * many)

    def test_a_list_that_is_kept_is_not_copied_or_changed(self):
        kept = [1, 2]
        refusal = errors.Wrong(kept)
        self.assertEqual(kept, [1, 2])
        kept.append(3)
        self.assertEqual(refusal.at, [1, 2, 3])

    def test_has_words_whatever_it_is_made_of(self):
        for name in FIELDS:
            self.assertTrue(str(made(name, Wordless())))


if __name__ == "__main__":
    unittest.main()
