// Package bits moves numbers between words and fields: see the document's chapter 1.
package bits

const (
	wordBits = 64
	maxRound = 62 // 2^maxRound is the greatest power of two that an int holds
)

// Fits tells whether n is from -2^(w-1) to 2^(w-1) - 1; of a w that is not 1 to 64, false.
func Fits(n, w int) bool {
	// Wrap leaves n as it is where w is no width, so widths are asked first.
	return w >= 1 && w <= wordBits && Wrap(n, w) == n
}

// Wrap is the number of w bits with a sign that differs from n by a multiple of 2^w; n, if w is not 1 to 63.
func Wrap(n, w int) int {
	if w < 1 || w >= wordBits {
		return n
	}
	// The way back is an arithmetic shift: it repeats the field's highest bit as the sign.
	gap := wordBits - w
	return int(int64(n) << gap >> gap)
}

// Put is word with x's lowest w bits in the field of w bits from bit at on; word, if there is no such field.
func Put(word uint64, at, w int, x uint64) uint64 {
	if !isField(at, w) {
		return word
	}
	ones := lowest(w)
	return word&^(ones<<at) | (x&ones)<<at
}

// Get is what the field of w bits from bit at on has, without sign; 0, if there is no such field.
func Get(word uint64, at, w int) uint64 {
	if !isField(at, w) {
		return 0
	}
	return word >> at & lowest(w)
}

// Signed is what the field of w bits from bit at on has, with a sign; 0, if there is no such field.
func Signed(word uint64, at, w int) int {
	return Wrap(int(Get(word, at, w)), w)
}

// Round is n by 2^by, to the nearest whole number, of two as near the even one; n, if by is not 1 to 62.
func Round(n, by int) int {
	if by < 1 || by > maxRound {
		return n
	}
	// The shift rounds down, also below 0, so the rest is never negative and one rule serves both signs.
	floor := n >> by
	rest := n & (1<<by - 1)
	half := 1 << (by - 1)
	if rest > half || rest == half && floor&1 == 1 {
		return floor + 1
	}
	return floor
}

// isField asks at ahead of w, so that wordBits - at cannot overflow.
func isField(at, w int) bool {
	return at >= 0 && at < wordBits && w >= 1 && w <= wordBits-at
}

// lowest is a word whose lowest w bits are ones, of a w from 1 to 64.
func lowest(w int) uint64 {
	return ^uint64(0) >> (wordBits - w)
}
