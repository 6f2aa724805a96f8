"""The tests of the project, and samples that they share."""
