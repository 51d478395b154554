"""Characters, patterns and automata."""
