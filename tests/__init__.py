"""The tests of variantnest: python3 -m unittest, at the top of the repository."""
