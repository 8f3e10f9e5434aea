"""The tests of idealtwin."""
