"""Records are read and told as leaves; values are turned to codes and back, counted, and numbered in order."""
