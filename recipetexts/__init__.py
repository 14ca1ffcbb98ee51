"""Recipe texts: a small lazy language, read strictly and printed in one plain form."""
