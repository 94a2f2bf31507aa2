package impl

import (
	"math/bits"
	"strconv"
)

const OpAdd = 1
const OpSub = 2
const OpMul = 3
const OpUDiv = 4
const OpSDiv = 5
const OpURem = 6
const OpSRem = 7
const OpShl = 8
const OpLShr = 9
const OpAShr = 10
const OpAnd = 11
const OpOr = 12
const OpXor = 13
const OpCompare = 14
const OpSelect = 15
const OpZExt = 16
const OpSExt = 17
const OpTrunc = 18
const FlagNSW = 1
const FlagNUW = 2
const FlagExact = 4
const PredEq = 1
const PredNe = 2
const PredULt = 3
const PredULe = 4
const PredUGt = 5
const PredUGe = 6
const PredSLt = 7
const PredSLe = 8
const PredSGt = 9
const PredSGe = 10
const WordOK = 0
const WordPoison = 1
const WordUndefined = 2
const WordBad = 3

type WordResult struct {
	Code int64
	Word uint64
}
type NumberResult struct {
	Good bool
	Word uint64
}

// Operations of one family may have the same flags and are worked out alike.
const (
	familyNone = iota
	familyRing
	familyUnsignedDivision
	familySignedDivision
	familyLeftShift
	familyRightShift
	familyBitwise
)

var widths = [5]int64{1, 8, 16, 32, 64}

// wide is a number of 128 bits in two's complement, its low half first:
// the sum, difference and product of any two numbers of 64 bits have room in it.
type wide [2]uint64

func ValidWidth(w int64) bool {
	for _, x := range widths {
		if x == w {
			return true
		}
	}
	return false
}

func isWord(w int64, v uint64) bool {
	return ValidWidth(w) && Cut(w, v) == v
}

func Cut(w int64, v uint64) uint64 {
	if !ValidWidth(w) {
		return 0
	}
	return v & (1<<w - 1)
}

func Signed(w int64, v uint64) int64 {
	if !isWord(w, v) {
		return 0
	}
	unused := 64 - w
	return int64(v<<unused) >> unused
}

func familyOf(op int64) int64 {
	switch op {
	case OpAdd, OpSub, OpMul:
		return familyRing
	case OpUDiv, OpURem:
		return familyUnsignedDivision
	case OpSDiv, OpSRem:
		return familySignedDivision
	case OpShl:
		return familyLeftShift
	case OpLShr, OpAShr:
		return familyRightShift
	case OpAnd, OpOr, OpXor:
		return familyBitwise
	}
	return familyNone
}

func isOperation(op int64) bool {
	return familyOf(op) != familyNone
}

func isRemainder(op int64) bool {
	return op == OpURem || op == OpSRem
}

func FlagsOf(op int64) int64 {
	switch familyOf(op) {
	case familyRing, familyLeftShift:
		return FlagNSW + FlagNUW
	case familyRightShift:
		return FlagExact
	case familyUnsignedDivision, familySignedDivision:
		if !isRemainder(op) {
			return FlagExact
		}
	}
	return 0
}

func Arith(op int64, flags int64, w int64, a uint64, b uint64) WordResult {
	if flags&^FlagsOf(op) != 0 || !isWord(w, a) || !isWord(w, b) {
		return WordResult{Code: WordBad}
	}
	switch familyOf(op) {
	case familyRing:
		return combine(op, flags, w, a, b)
	case familyUnsignedDivision:
		return divideWords(op, flags, a, b)
	case familySignedDivision:
		return divideSigned(op, flags, w, a, b)
	case familyLeftShift:
		return shiftLeft(flags, w, a, b)
	case familyRightShift:
		return shiftRight(op, flags, w, a, b)
	case familyBitwise:
		return WordResult{Word: bitwise(op, a, b)}
	}
	return WordResult{Code: WordBad}
}

func widen(n int64) wide {
	return wide{uint64(n), uint64(n >> 63)}
}

func (a wide) plus(b wide) wide {
	low, carry := bits.Add64(a[0], b[0], 0)
	high, _ := bits.Add64(a[1], b[1], carry)
	return wide{low, high}
}

func (a wide) minus(b wide) wide {
	low, borrow := bits.Sub64(a[0], b[0], 0)
	high, _ := bits.Sub64(a[1], b[1], borrow)
	return wide{low, high}
}

func (a wide) times(b wide) wide {
	high, low := bits.Mul64(a[0], b[0])
	return wide{low, high + a[0]*b[1] + a[1]*b[0]}
}

// trueOutcome is that of Add, Sub or Mul, before it is cut to a width.
func trueOutcome(op int64, a wide, b wide) wide {
	switch op {
	case OpAdd:
		return a.plus(b)
	case OpSub:
		return a.minus(b)
	}
	return a.times(b)
}

func combine(op int64, flags int64, w int64, a uint64, b uint64) WordResult {
	whole := trueOutcome(op, wide{a}, wide{b})
	word := Cut(w, whole[0])
	if flags&FlagNUW != 0 && whole != (wide{word}) {
		return WordResult{Code: WordPoison}
	}
	if flags&FlagNSW != 0 && trueOutcome(op, widen(Signed(w, a)), widen(Signed(w, b))) != widen(Signed(w, word)) {
		return WordResult{Code: WordPoison}
	}
	return WordResult{Word: word}
}

func divideWords(op int64, flags int64, a uint64, b uint64) WordResult {
	if b == 0 {
		return WordResult{Code: WordUndefined}
	}
	return quotientOrRemainder(op, flags, a/b, a%b)
}

func divideSigned(op int64, flags int64, w int64, a uint64, b uint64) WordResult {
	x, y := Signed(w, a), Signed(w, b)
	if y == 0 || y == -1 && a == 1<<(w-1) {
		return WordResult{Code: WordUndefined}
	}
	return quotientOrRemainder(op, flags, Cut(w, uint64(x/y)), Cut(w, uint64(x%y)))
}

func quotientOrRemainder(op int64, flags int64, quotient uint64, remainder uint64) WordResult {
	if isRemainder(op) {
		return WordResult{Word: remainder}
	}
	if flags&FlagExact != 0 && remainder != 0 {
		return WordResult{Code: WordPoison}
	}
	return WordResult{Word: quotient}
}

// shifted takes a number of places below the width.
func shifted(op int64, w int64, a uint64, places uint64) uint64 {
	switch op {
	case OpShl:
		return Cut(w, a<<places)
	case OpLShr:
		return a >> places
	}
	return Cut(w, uint64(Signed(w, a)>>places))
}

func shiftLeft(flags int64, w int64, a uint64, b uint64) WordResult {
	if b >= uint64(w) {
		return WordResult{Code: WordPoison}
	}
	word := shifted(OpShl, w, a, b)
	if flags&FlagNSW != 0 && shifted(OpAShr, w, word, b) != a {
		return WordResult{Code: WordPoison}
	}
	if flags&FlagNUW != 0 && shifted(OpLShr, w, word, b) != a {
		return WordResult{Code: WordPoison}
	}
	return WordResult{Word: word}
}

func shiftRight(op int64, flags int64, w int64, a uint64, b uint64) WordResult {
	if b >= uint64(w) {
		return WordResult{Code: WordPoison}
	}
	word := shifted(op, w, a, b)
	if flags&FlagExact != 0 && shifted(OpShl, w, word, b) != a {
		return WordResult{Code: WordPoison}
	}
	return WordResult{Word: word}
}

func bitwise(op int64, a uint64, b uint64) uint64 {
	switch op {
	case OpAnd:
		return a & b
	case OpOr:
		return a | b
	}
	return a ^ b
}

func Compare(pred int64, w int64, a uint64, b uint64) WordResult {
	if SwapPred(pred) == 0 || !isWord(w, a) || !isWord(w, b) {
		return WordResult{Code: WordBad}
	}
	if holds(pred, w, a, b) {
		return WordResult{Word: 1}
	}
	return WordResult{}
}

func holds(pred int64, w int64, a uint64, b uint64) bool {
	switch pred {
	case PredEq:
		return a == b
	case PredNe:
		return a != b
	case PredULt:
		return a < b
	case PredULe:
		return a <= b
	case PredUGt:
		return a > b
	case PredUGe:
		return a >= b
	case PredSLt:
		return Signed(w, a) < Signed(w, b)
	case PredSLe:
		return Signed(w, a) <= Signed(w, b)
	case PredSGt:
		return Signed(w, a) > Signed(w, b)
	}
	return Signed(w, a) >= Signed(w, b)
}

func SwapPred(pred int64) int64 {
	switch pred {
	case PredEq, PredNe:
		return pred
	case PredULt:
		return PredUGt
	case PredULe:
		return PredUGe
	case PredUGt:
		return PredULt
	case PredUGe:
		return PredULe
	case PredSLt:
		return PredSGt
	case PredSLe:
		return PredSGe
	case PredSGt:
		return PredSLt
	case PredSGe:
		return PredSLe
	}
	return 0
}

func Cast(op int64, from int64, to int64, v uint64) WordResult {
	if !isWord(from, v) || !ValidWidth(to) {
		return WordResult{Code: WordBad}
	}
	switch {
	case op == OpZExt && to > from:
		return WordResult{Word: v}
	case op == OpSExt && to > from:
		return WordResult{Word: Cut(to, uint64(Signed(from, v)))}
	case op == OpTrunc && to < from:
		return WordResult{Word: Cut(to, v)}
	}
	return WordResult{Code: WordBad}
}

func FormatWord(w int64, v uint64) string {
	if !isWord(w, v) {
		return ""
	}
	if w == 1 {
		return strconv.FormatUint(v, 10)
	}
	return strconv.FormatInt(Signed(w, v), 10)
}

func ParseWord(w int64, text string) NumberResult {
	n, err := strconv.ParseInt(text, 10, 64)
	if err != nil {
		return NumberResult{}
	}
	// Written again, a number out of the width or in another form differs from the text.
	word := Cut(w, uint64(n))
	if FormatWord(w, word) != text {
		return NumberResult{}
	}
	return NumberResult{Good: true, Word: word}
}
