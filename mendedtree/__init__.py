"""Mendedtree: syntax trees that are kept while their texts are edited."""
