"""Edits of texts, and what survives them."""
