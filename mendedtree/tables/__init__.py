"""Tables by which texts are read."""
