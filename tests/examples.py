"""Runs examples as DOC.md writes them: a line behind >>>, then the result or the error."""

import ast


def pairs_of(text):
    """The pairs (source, expected) of the examples; expected is None where no result stands."""
    found = []
    for line in text.strip("\n").split("\n"):
        line = line.strip()
        if line.startswith(">>> "):
            found.append([line[4:], None])
        else:
            found[-1][1] = line
    return found


def is_expression(source):
    return isinstance(ast.parse(source).body[0], ast.Expr)


def run_examples(case, text, names):
    """Runs all examples of the text one after the other with these names, which they add to."""
    for source, expected in pairs_of(text):
        with case.subTest(source=source):
            if expected is not None and expected.startswith("raises "):
                wanted = eval(expected[len("raises "):], names)
                with case.assertRaises(type(wanted)) as caught:
                    exec(source, names)
                case.assertEqual(vars(caught.exception), vars(wanted))
            elif is_expression(source):
                found = eval(source, names)
                # Of what returns nothing the document shows nothing.
                case.assertEqual(None if found is None else repr(found), expected)
            else:
                exec(source, names)
