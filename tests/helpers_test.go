package tests

import "math/big"

var widths = []int64{1, 8, 16, 32, 64}

// strange are numbers that are no width, no operation, no predicate, or just beside one.
var strange = []int64{-1 << 63, -1<<63 + 1, -65, -64, -8, -2, -1, 0, 2, 3, 7, 9, 15, 17, 31, 33, 63, 65, 66, 127, 128, 256, 1 << 32, 1<<32 + 8, 1<<63 - 1}

// sequence makes the same numbers in every run.
type sequence uint64

func (s *sequence) next() uint64 {
	*s += 0x9e3779b97f4a7c15
	z := uint64(*s)
	z = (z ^ z>>30) * 0xbf58476d1ce4e5b9
	z = (z ^ z>>27) * 0x94d049bb133111eb
	return z ^ z>>31
}

func allOnes(w int64) uint64 {
	return ^uint64(0) >> (64 - w)
}

// edgeWords are the words of a width at which something turns, each once, and some from within.
func edgeWords(w int64) []uint64 {
	top := allOnes(w)
	list := []uint64{0, 1, 2, 3, 7, 10, uint64(w) - 1, uint64(w), uint64(w) + 1, top, top - 1, top - 6, top / 2, top/2 + 1, top/2 + 2, top / 3, 1 << (w / 2), 1<<(w/2) - 1}
	s := sequence(w)
	for range 6 {
		list = append(list, s.next())
	}
	var out []uint64
	seen := map[uint64]bool{}
	for _, v := range list {
		v &= top
		if !seen[v] {
			seen[v] = true
			out = append(out, v)
		}
	}
	return out
}

func everyWord(w int64) []uint64 {
	var out []uint64
	for v := uint64(0); v <= allOnes(w); v++ {
		out = append(out, v)
	}
	return out
}

// wordsToTry are all words of the narrow widths, and the edges of the others.
func wordsToTry(w int64) []uint64 {
	if w <= 8 {
		return everyWord(w)
	}
	return edgeWords(w)
}

func bigWord(v uint64) *big.Int {
	return new(big.Int).SetUint64(v)
}

// bigSigned is the signed number of a word, by the words of the document.
func bigSigned(w int64, v uint64) *big.Int {
	n := bigWord(v)
	if v>>(w-1)&1 == 1 {
		n.Sub(n, power(w))
	}
	return n
}

func power(k int64) *big.Int {
	return new(big.Int).Lsh(big.NewInt(1), uint(k))
}

// wordOf is the word of a width that stands for a number, whatever its size and sign.
func wordOf(w int64, n *big.Int) uint64 {
	return new(big.Int).Mod(n, power(w)).Uint64()
}
