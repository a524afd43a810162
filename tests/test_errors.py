import unittest

from ownroom import errors

NAMES = ("NoOwner NoTask NoPage NoRoom Taken NoBlock Fallen BadName NoName NotDir IsDir NotEmpty Inside NoNode "
         "NoSpace TooMany TooBig NotHeld NotAllowed NoHandle BadMode Again Broken NoChild BadCall BadRow").split()


class TestErrors(unittest.TestCase):
    def test_kernel_error_stands_under_value_error(self):
        self.assertEqual(errors.KernelError.__bases__, (ValueError,))

    def test_each_class_stands_straight_under_kernel_error(self):
        for name in NAMES:
            with self.subTest(name):
                self.assertEqual(getattr(errors, name).__bases__, (errors.KernelError,))
                self.assertEqual(getattr(errors, name).__name__, name)

    def test_no_class_stands_under_another(self):
        for name in NAMES:
            for other in NAMES:
                if name != other:
                    with self.subTest(name, other=other):
                        self.assertFalse(issubclass(getattr(errors, name), getattr(errors, other)))

    def test_each_class_is_raised_and_taken_by_name(self):
        for name in NAMES:
            refusal = getattr(errors, name)
            with self.subTest(name), self.assertRaises(refusal):
                raise refusal(1)

    def test_bad_row_has_its_row(self):
        self.assertEqual(errors.BadRow(7).row, 7)
        self.assertEqual(errors.BadRow(0).row, 0)
        try:
            raise errors.BadRow(12)
        except errors.KernelError as e:
            self.assertEqual(e.row, 12)


if __name__ == "__main__":
    unittest.main()
