"""Lateposts: receivers of numbered posts that are lost, doubled and late."""
