"""Languages within languages."""
