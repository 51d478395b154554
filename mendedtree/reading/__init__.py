"""Reading texts into trees."""
