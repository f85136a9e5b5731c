"""Small programs of hands, whose numbers are given again."""
