"""The tests of forktales."""
