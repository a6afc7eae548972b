"""Letters told by their places in a list that orders itself."""
