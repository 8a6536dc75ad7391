"""Stone bridges judged for every row of carts."""
