"""The tests of faremachines."""
