// Package sym has symbols.
package sym

import "scrinium/api"

// Of tells a byte's symbol: one more than the byte, as 0 is the terminator's.
func Of(b byte) int { return int(b) + 1 }

// Byte tells a symbol's byte; false of the terminator, which has none, and of what is no symbol.
func Byte(s int) (byte, bool) {
	if s == 0 || !isSymbol(s) {
		return 0, false
	}
	return byte(s - 1), true
}

// Bit tells one of a symbol's bits, the greatest at level 0; false outside of the symbols and their levels.
func Bit(s, level int) bool {
	if !isSymbol(s) || level < 0 || level >= api.Levels {
		return false
	}
	return s>>(api.Levels-1-level)&1 == 1
}

// Text tells whether a text may be a document's.
func Text(s string) bool { return len(s) <= api.MaxText }

// All tells a text's symbols, without a terminator: a pattern has none, and a document's is put behind it by who needs it.
func All(s string) []int {
	l := make([]int, len(s))
	// By index, as range over a string would tell runes, not bytes.
	for i := range len(s) {
		l[i] = Of(s[i])
	}
	return l
}

func isSymbol(s int) bool { return s >= 0 && s < api.Symbols }
