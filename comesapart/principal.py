"""The principal kinds of programs (point 93)."""

from comesapart.inference import Forms, form_of_program, shape_of_form
from comesapart.kinds import Kind


def principal_kind(program):
    """Return the principal kind of the program."""
    forms = Forms()
    return Kind(shape_of_form(forms, form_of_program(forms, program, {}), {}, True))
