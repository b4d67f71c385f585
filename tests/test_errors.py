import unittest

from seamgraph.errors import (
    InvalidDocument,
    InvalidRequest,
    InvalidSchema,
    InvalidType,
    InvalidVariables,
    SeamError,
)


class ErrorsTest(unittest.TestCase):
    def test_base_is_a_value_error(self):
        self.assertIs(SeamError.__bases__[0], ValueError)

    def test_each_error_derives_from_the_base(self):
        for error in (InvalidType, InvalidDocument, InvalidSchema, InvalidVariables, InvalidRequest):
            self.assertTrue(issubclass(error, SeamError), error)
            self.assertIsNot(error, SeamError)

    def test_errors_do_not_catch_each_other(self):
        errors = (InvalidType, InvalidDocument, InvalidSchema, InvalidVariables, InvalidRequest)
        for error in errors:
            self.assertEqual([other for other in errors if issubclass(error, other)], [error])

    def test_document_error_has_its_place(self):
        for place in (0, 17):
            with self.assertRaises(SeamError) as caught:
                raise InvalidDocument(place)
            self.assertEqual(caught.exception.place, place)
            self.assertIsInstance(str(caught.exception), str)

    def test_schema_error_has_its_rule(self):
        for rule in range(1, 8):
            with self.assertRaises(SeamError) as caught:
                raise InvalidSchema(rule)
            self.assertEqual(caught.exception.rule, rule)
            self.assertIsInstance(str(caught.exception), str)

    def test_other_errors_take_words(self):
        for error in (InvalidType, InvalidVariables, InvalidRequest):
            self.assertEqual(str(error("words")), "words")


if __name__ == "__main__":
    unittest.main()
