"""The versions of a text that is edited."""
