"""Programs of sums, the rows that do the same, and what is true of both at their marks."""
