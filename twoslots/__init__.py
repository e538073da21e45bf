"""Twoslots: the back end of a compiler, with papers."""
