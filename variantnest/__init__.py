"""Variantnest: a library of trees made from one another, with overrides at any depth."""
