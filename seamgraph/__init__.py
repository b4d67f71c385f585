"""Seamgraph: graph queries over several services."""
