"""The tests of Lightfirst."""
