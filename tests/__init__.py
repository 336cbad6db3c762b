"""The tests of sixpins."""
