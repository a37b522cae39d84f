"""Books at far places, and how soon their doors may answer."""
