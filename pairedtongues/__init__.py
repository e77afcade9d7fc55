"""Two small tongues, and one book of rules that makes texts of both at once."""
