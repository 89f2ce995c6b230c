"""The tests of heldfloods."""
