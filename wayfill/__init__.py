"""Words, rules, the ways between words, and the squares that fill them."""
