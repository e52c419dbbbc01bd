"""Records are read and told as leaves; values are turned to codes."""
