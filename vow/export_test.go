package vow

// SetMark lets a test stand near the last mark: there are more breaks on the way to it than any test can make.
func (t *Table) SetMark(m complex128) { t.mark = m }
