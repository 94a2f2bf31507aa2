package tests

import (
	"math/big"
	"strconv"
	"strings"
	"testing"

	"loop.example/g00010/impl"
)

var poison = impl.WordResult{Code: impl.WordPoison}
var undefined = impl.WordResult{Code: impl.WordUndefined}
var bad = impl.WordResult{Code: impl.WordBad}

// flagsOf is the document's list of flags.
var flagsOf = map[int64]int64{
	impl.OpAdd: 3, impl.OpSub: 3, impl.OpMul: 3, impl.OpShl: 3,
	impl.OpUDiv: 4, impl.OpSDiv: 4, impl.OpLShr: 4, impl.OpAShr: 4,
}

func good(v uint64) impl.WordResult {
	return impl.WordResult{Word: v}
}

func isIn(low, n, high *big.Int) bool {
	return low.Cmp(n) <= 0 && n.Cmp(high) <= 0
}

func isSignedOf(w int64, n *big.Int) bool {
	half := power(w - 1)
	return isIn(new(big.Int).Neg(half), n, new(big.Int).Sub(half, big.NewInt(1)))
}

func isWordOf(w int64, n *big.Int) bool {
	return isIn(new(big.Int), n, bigWord(allOnes(w)))
}

// wantArith works out by numbers without bounds what Arith must answer at words, operations and flags that are such.
func wantArith(op, flags, w int64, a, b uint64) impl.WordResult {
	ua, ub, sa, sb := bigWord(a), bigWord(b), bigSigned(w, a), bigSigned(w, b)
	switch op {
	case impl.OpAdd:
		return wantRing(flags, w, new(big.Int).Add(ua, ub), new(big.Int).Add(sa, sb))
	case impl.OpSub:
		return wantRing(flags, w, new(big.Int).Sub(ua, ub), new(big.Int).Sub(sa, sb))
	case impl.OpMul:
		return wantRing(flags, w, new(big.Int).Mul(ua, ub), new(big.Int).Mul(sa, sb))
	case impl.OpUDiv, impl.OpURem:
		return wantDivision(op == impl.OpURem, flags, w, ua, ub)
	case impl.OpSDiv, impl.OpSRem:
		return wantDivision(op == impl.OpSRem, flags, w, sa, sb)
	case impl.OpShl, impl.OpLShr, impl.OpAShr:
		return wantShift(op, flags, w, a, b)
	case impl.OpAnd:
		return good(new(big.Int).And(ua, ub).Uint64())
	case impl.OpOr:
		return good(new(big.Int).Or(ua, ub).Uint64())
	}
	return good(new(big.Int).Xor(ua, ub).Uint64())
}

func wantRing(flags, w int64, words, signed *big.Int) impl.WordResult {
	if flags&impl.FlagNUW != 0 && !isWordOf(w, words) || flags&impl.FlagNSW != 0 && !isSignedOf(w, signed) {
		return poison
	}
	return good(wordOf(w, words))
}

// wantDivision takes words or signed numbers: a quotient of words never leaves the width.
func wantDivision(remainder bool, flags, w int64, a, b *big.Int) impl.WordResult {
	if b.Sign() == 0 {
		return undefined
	}
	q, r := new(big.Int).QuoRem(a, b, new(big.Int))
	if b.Sign() < 0 && !isSignedOf(w, q) {
		return undefined
	}
	if remainder {
		return good(wordOf(w, r))
	}
	if flags&impl.FlagExact != 0 && r.Sign() != 0 {
		return poison
	}
	return good(wordOf(w, q))
}

func wantShift(op, flags, w int64, a, b uint64) impl.WordResult {
	if b >= uint64(w) {
		return poison
	}
	k := uint(b)
	switch op {
	case impl.OpShl:
		return wantRing(flags, w, new(big.Int).Lsh(bigWord(a), k), new(big.Int).Lsh(bigSigned(w, a), k))
	case impl.OpLShr:
		return wantRight(flags, w, bigWord(a), k)
	}
	return wantRight(flags, w, bigSigned(w, a), k)
}

func wantRight(flags, w int64, n *big.Int, k uint) impl.WordResult {
	out := new(big.Int).Rsh(n, k)
	if flags&impl.FlagExact != 0 && new(big.Int).Lsh(out, k).Cmp(n) != 0 {
		return poison
	}
	return good(wordOf(w, out))
}

func TestConstantsOfWords(t *testing.T) {
	for i, op := range []int64{impl.OpAdd, impl.OpSub, impl.OpMul, impl.OpUDiv, impl.OpSDiv, impl.OpURem, impl.OpSRem, impl.OpShl, impl.OpLShr, impl.OpAShr, impl.OpAnd, impl.OpOr, impl.OpXor, impl.OpCompare, impl.OpSelect, impl.OpZExt, impl.OpSExt, impl.OpTrunc} {
		if op != int64(i)+1 {
			t.Error("operation", i+1, "has the number", op)
		}
	}
	for i, pred := range []int64{impl.PredEq, impl.PredNe, impl.PredULt, impl.PredULe, impl.PredUGt, impl.PredUGe, impl.PredSLt, impl.PredSLe, impl.PredSGt, impl.PredSGe} {
		if pred != int64(i)+1 {
			t.Error("predicate", i+1, "has the number", pred)
		}
	}
	if [...]int64{impl.WordOK, impl.WordPoison, impl.WordUndefined, impl.WordBad} != [...]int64{0, 1, 2, 3} || [...]int64{impl.FlagNSW, impl.FlagNUW, impl.FlagExact} != [...]int64{1, 2, 4} {
		t.Error("codes or flags")
	}
}

func TestValidWidth(t *testing.T) {
	for _, w := range widths {
		if !impl.ValidWidth(w) {
			t.Error(w, "is a width")
		}
	}
	for _, w := range strange {
		if impl.ValidWidth(w) {
			t.Error(w, "is no width")
		}
	}
	count := 0
	for w := int64(-300); w <= 300; w++ {
		if impl.ValidWidth(w) {
			count++
		}
	}
	if count != len(widths) {
		t.Error(count, "widths")
	}
}

func TestCutAndSigned(t *testing.T) {
	for _, w := range widths {
		for _, v := range append(edgeWords(64), wordsToTry(w)...) {
			if got, want := impl.Cut(w, v), wordOf(w, bigWord(v)); got != want {
				t.Error("Cut", w, v, "gives", got, "not", want)
			}
			want := int64(0)
			if v <= allOnes(w) {
				want = bigSigned(w, v).Int64()
			}
			if got := impl.Signed(w, v); got != want {
				t.Error("Signed", w, v, "gives", got, "not", want)
			}
		}
	}
	for _, w := range strange {
		for _, v := range edgeWords(64) {
			if impl.Cut(w, v) != 0 || impl.Signed(w, v) != 0 {
				t.Error(w, "is no width:", impl.Cut(w, v), impl.Signed(w, v))
			}
		}
	}
}

func TestFlagsOf(t *testing.T) {
	for op := int64(-40); op <= 40; op++ {
		if got := impl.FlagsOf(op); got != flagsOf[op] {
			t.Error("FlagsOf", op, "gives", got)
		}
	}
	for _, op := range []int64{-1 << 63, 1<<63 - 1, 1<<32 + impl.OpAdd} {
		if impl.FlagsOf(op) != 0 {
			t.Error("FlagsOf", op)
		}
	}
}

// flagSets are the flags that an operation may have, alone and together.
func flagSets(op int64) []int64 {
	var out []int64
	for flags := int64(0); flags < 8; flags++ {
		if flags&^flagsOf[op] == 0 {
			out = append(out, flags)
		}
	}
	return out
}

func TestArith(t *testing.T) {
	for _, w := range widths {
		words := wordsToTry(w)
		for op := int64(impl.OpAdd); op <= impl.OpXor; op++ {
			for _, flags := range flagSets(op) {
				for _, a := range words {
					for _, b := range words {
						if got, want := impl.Arith(op, flags, w, a, b), wantArith(op, flags, w, a, b); got != want {
							t.Fatal("Arith", op, flags, w, a, b, "gives", got, "not", want)
						}
					}
				}
			}
		}
	}
}

// TestArithByHand holds what TestArith works out against cases that were worked out by hand.
func TestArithByHand(t *testing.T) {
	const least, most = 1 << 63, 1<<63 - 1
	for _, c := range []struct {
		op, flags, w int64
		a, b         uint64
		want         impl.WordResult
	}{
		{impl.OpAdd, 0, 64, 1<<64 - 1, 1, good(0)},
		{impl.OpAdd, impl.FlagNUW, 64, 1<<64 - 1, 1, poison},
		{impl.OpAdd, impl.FlagNSW, 64, 1<<64 - 1, 1, good(0)},
		{impl.OpAdd, impl.FlagNSW, 64, most, 1, poison},
		{impl.OpAdd, impl.FlagNSW, 64, least, least, poison},
		{impl.OpAdd, impl.FlagNUW, 64, most, most, good(1<<64 - 2)},
		{impl.OpAdd, impl.FlagNSW, 1, 1, 1, poison},
		{impl.OpAdd, impl.FlagNSW, 1, 1, 0, good(1)},
		{impl.OpSub, impl.FlagNSW, 1, 0, 1, poison},
		{impl.OpSub, impl.FlagNSW, 64, 0, least, poison},
		{impl.OpSub, impl.FlagNSW, 64, 1<<64 - 1, least, good(most)},
		{impl.OpSub, impl.FlagNUW, 64, 0, 1, poison},
		{impl.OpMul, impl.FlagNSW, 64, least, 1<<64 - 1, poison},
		{impl.OpMul, impl.FlagNSW, 64, least, 1, good(least)},
		{impl.OpMul, impl.FlagNSW, 64, 1<<64 - 1, 1<<64 - 1, good(1)},
		{impl.OpMul, impl.FlagNUW, 64, 1<<64 - 1, 1<<64 - 1, poison},
		{impl.OpMul, impl.FlagNUW, 64, 1 << 32, 1 << 32, poison},
		{impl.OpMul, impl.FlagNUW, 64, 1<<32 - 1, 1<<32 + 1, good(1<<64 - 1)},
		{impl.OpMul, impl.FlagNSW | impl.FlagNUW, 8, 11, 12, poison},
		{impl.OpMul, impl.FlagNUW, 8, 11, 12, good(132)},
		{impl.OpSDiv, 0, 64, least, 1<<64 - 1, undefined},
		{impl.OpSRem, 0, 64, least, 1<<64 - 1, undefined},
		{impl.OpSDiv, impl.FlagExact, 64, least, 1<<64 - 1, undefined},
		{impl.OpSDiv, 0, 64, most, 1<<64 - 1, good(least + 1)},
		{impl.OpSDiv, 0, 1, 0, 1, good(0)},
		{impl.OpSDiv, 0, 1, 1, 1, undefined},
		{impl.OpSDiv, 0, 8, 249, 2, good(253)},
		{impl.OpSRem, 0, 8, 249, 2, good(255)},
		{impl.OpSRem, 0, 8, 7, 254, good(1)},
		{impl.OpSDiv, impl.FlagExact, 8, 249, 2, poison},
		{impl.OpSDiv, impl.FlagExact, 8, 248, 2, good(252)},
		{impl.OpUDiv, impl.FlagExact, 8, 7, 0, undefined},
		{impl.OpURem, 0, 16, 7, 0, undefined},
		{impl.OpSDiv, 0, 32, 7, 0, undefined},
		{impl.OpSRem, 0, 32, 0, 0, undefined},
		{impl.OpShl, 0, 64, 1, 63, good(least)},
		{impl.OpShl, 0, 64, 1, 64, poison},
		{impl.OpShl, 0, 64, 1, 1<<64 - 1, poison},
		{impl.OpShl, 0, 1, 1, 0, good(1)},
		{impl.OpShl, 0, 1, 1, 1, poison},
		{impl.OpShl, impl.FlagNSW, 64, 1, 63, poison},
		{impl.OpShl, impl.FlagNUW, 64, 1, 63, good(least)},
		{impl.OpShl, impl.FlagNSW, 64, 1<<64 - 1, 63, good(least)},
		{impl.OpLShr, 0, 16, 1, 16, poison},
		{impl.OpAShr, 0, 16, 1, 17, poison},
		{impl.OpAShr, 0, 32, 1 << 31, 31, good(1<<32 - 1)},
		{impl.OpLShr, impl.FlagExact, 8, 12, 2, good(3)},
		{impl.OpLShr, impl.FlagExact, 8, 12, 3, poison},
		{impl.OpAShr, impl.FlagExact, 8, 140, 2, good(227)},
		{impl.OpXor, 0, 8, 255, 15, good(240)},
	} {
		if got := impl.Arith(c.op, c.flags, c.w, c.a, c.b); got != c.want {
			t.Error("Arith", c.op, c.flags, c.w, c.a, c.b, "gives", got, "not", c.want)
		}
		if want := wantArith(c.op, c.flags, c.w, c.a, c.b); want != c.want {
			t.Error("the test's own answer at", c.op, c.flags, c.w, c.a, c.b, "is", want)
		}
	}
}

func TestArithOfWrongThings(t *testing.T) {
	check := func(op, flags, w int64, a, b uint64) {
		if got := impl.Arith(op, flags, w, a, b); got != bad {
			t.Error("Arith", op, flags, w, a, b, "gives", got)
		}
	}
	for _, op := range []int64{-1 << 63, -1, 0, impl.OpCompare, impl.OpSelect, impl.OpTrunc, 19, 1<<32 + 1, 1<<63 - 1} {
		check(op, 0, 8, 1, 1)
	}
	for op := int64(impl.OpAdd); op <= impl.OpXor; op++ {
		for _, flags := range append([]int64{1, 2, 3, 4, 5, 6, 7, 8, 1 << 32}, strange...) {
			if flags&^flagsOf[op] != 0 {
				check(op, flags, 8, 1, 1)
				check(op, flags, 8, 1, 0)
				check(op, flags, 8, 1, 9)
			}
		}
		for _, w := range strange {
			check(op, 0, w, 0, 0)
			check(op, 0, w, 1, 1)
		}
		for _, w := range []int64{1, 8, 16, 32} {
			for _, v := range []uint64{allOnes(w) + 1, allOnes(w) + 2, 1 << 63, 1<<64 - 1} {
				check(op, 0, w, v, 1)
				check(op, 0, w, 1, v)
				check(op, 0, w, v, 0)
			}
		}
	}
}

// arith is the word of an operation without flags that is defined.
func arith(t *testing.T, op, w int64, a, b uint64) uint64 {
	r := impl.Arith(op, 0, w, a, b)
	if r.Code != impl.WordOK {
		t.Fatal("Arith", op, w, a, b, "has the code", r.Code)
	}
	return r.Word
}

func TestWordsAreARing(t *testing.T) {
	for _, w := range widths {
		add := func(a, b uint64) uint64 { return arith(t, impl.OpAdd, w, a, b) }
		sub := func(a, b uint64) uint64 { return arith(t, impl.OpSub, w, a, b) }
		mul := func(a, b uint64) uint64 { return arith(t, impl.OpMul, w, a, b) }
		words := edgeWords(w)
		for _, a := range words {
			if add(a, 0) != a || mul(a, 1) != a || mul(a, 0) != 0 || add(a, sub(0, a)) != 0 {
				t.Error("0 and 1 of width", w, "with", a)
			}
			for _, b := range words {
				if add(a, b) != add(b, a) || mul(a, b) != mul(b, a) || add(sub(a, b), b) != a {
					t.Error("two words of width", w, a, b)
				}
				for _, c := range words {
					if add(add(a, b), c) != add(a, add(b, c)) || mul(mul(a, b), c) != mul(a, mul(b, c)) || mul(a, add(b, c)) != add(mul(a, b), mul(a, c)) {
						t.Error("three words of width", w, a, b, c)
					}
				}
			}
		}
	}
}

func TestQuotientsAndRemaindersGoTogether(t *testing.T) {
	for _, w := range widths {
		for _, a := range edgeWords(w) {
			for _, b := range edgeWords(w) {
				quotient, remainder := impl.Arith(impl.OpUDiv, 0, w, a, b), impl.Arith(impl.OpURem, 0, w, a, b)
				if quotient.Code != remainder.Code || quotient.Code == impl.WordOK && (remainder.Word >= b || quotient.Word*b+remainder.Word != a) {
					t.Error("of words", w, a, b, quotient, remainder)
				}
				quotient, remainder = impl.Arith(impl.OpSDiv, 0, w, a, b), impl.Arith(impl.OpSRem, 0, w, a, b)
				if quotient.Code != remainder.Code {
					t.Error("of signed numbers", w, a, b, quotient, remainder)
				}
				if quotient.Code == impl.WordOK {
					checkSignedRemainder(t, w, a, b, quotient.Word, remainder.Word)
				}
			}
		}
	}
}

func checkSignedRemainder(t *testing.T, w int64, a, b, quotient, remainder uint64) {
	x, y, r := bigSigned(w, a), bigSigned(w, b), bigSigned(w, remainder)
	whole := new(big.Int).Mul(bigSigned(w, quotient), y)
	if whole.Add(whole, r).Cmp(x) != 0 || r.CmpAbs(y) >= 0 || r.Sign() != 0 && r.Sign() != x.Sign() {
		t.Error("of signed numbers", w, a, b, quotient, remainder)
	}
}

func TestShiftsAreProductsAndQuotients(t *testing.T) {
	for _, w := range widths {
		for k := uint64(0); k < uint64(w); k++ {
			for _, a := range edgeWords(w) {
				two := uint64(1) << k
				for _, flags := range flagSets(impl.OpShl) {
					// By the highest bit NSW differs: as a factor it is the least number, not a power of two.
					if flags&impl.FlagNSW != 0 && k == uint64(w)-1 {
						continue
					}
					if got, want := impl.Arith(impl.OpShl, flags, w, a, k), impl.Arith(impl.OpMul, flags, w, a, two); got != want {
						t.Error("Shl", flags, w, a, k, "gives", got, "not", want)
					}
				}
				for _, flags := range flagSets(impl.OpLShr) {
					if got, want := impl.Arith(impl.OpLShr, flags, w, a, k), impl.Arith(impl.OpUDiv, flags, w, a, two); got != want {
						t.Error("LShr", flags, w, a, k, "gives", got, "not", want)
					}
					if got, want := impl.Arith(impl.OpAShr, flags, w, a, k), impl.Arith(impl.OpSDiv, flags, w, a, two); k < uint64(w)-1 && (flags != 0 || a>>(w-1) == 0) && got != want {
						t.Error("AShr", flags, w, a, k, "gives", got, "not", want)
					}
				}
			}
		}
	}
}

// wantCompare is what a predicate says of two words, as their order and that of their signed numbers have it.
func wantCompare(pred, w int64, a, b uint64) bool {
	words, signed := bigWord(a).Cmp(bigWord(b)), bigSigned(w, a).Cmp(bigSigned(w, b))
	return []bool{words == 0, words != 0, words < 0, words <= 0, words > 0, words >= 0, signed < 0, signed <= 0, signed > 0, signed >= 0}[pred-1]
}

func TestCompare(t *testing.T) {
	for _, w := range widths {
		words := wordsToTry(w)
		for pred := int64(impl.PredEq); pred <= impl.PredSGe; pred++ {
			for _, a := range words {
				for _, b := range words {
					want := good(0)
					if wantCompare(pred, w, a, b) {
						want = good(1)
					}
					if got := impl.Compare(pred, w, a, b); got != want {
						t.Fatal("Compare", pred, w, a, b, "gives", got, "not", want)
					}
					if got := impl.Compare(impl.SwapPred(pred), w, b, a); got != want {
						t.Fatal("SwapPred", pred, w, a, b, "gives", got, "not", want)
					}
				}
			}
		}
	}
}

func TestCompareOfWrongThings(t *testing.T) {
	for _, pred := range []int64{-1 << 63, -1, 0, 11, 12, 1<<32 + 1, 1<<63 - 1} {
		if impl.Compare(pred, 8, 1, 1) != bad || impl.SwapPred(pred) != 0 {
			t.Error(pred, "is no predicate:", impl.Compare(pred, 8, 1, 1), impl.SwapPred(pred))
		}
	}
	for pred := int64(impl.PredEq); pred <= impl.PredSGe; pred++ {
		for _, w := range strange {
			if impl.Compare(pred, w, 0, 0) != bad {
				t.Error(w, "is no width:", impl.Compare(pred, w, 0, 0))
			}
		}
		for _, w := range []int64{1, 8, 16, 32} {
			if impl.Compare(pred, w, allOnes(w)+1, 1) != bad || impl.Compare(pred, w, 1, allOnes(w)+1) != bad || impl.Compare(pred, w, 1<<63, 1<<63) != bad {
				t.Error("no words of width", w)
			}
		}
	}
	for pred, want := range []int64{0, impl.PredEq, impl.PredNe, impl.PredUGt, impl.PredUGe, impl.PredULt, impl.PredULe, impl.PredSGt, impl.PredSGe, impl.PredSLt, impl.PredSLe, 0} {
		if got := impl.SwapPred(int64(pred)); got != want {
			t.Error("SwapPred", pred, "gives", got, "not", want)
		}
	}
}

// wantCast is a cast by the numbers that words stand for.
func wantCast(op, from, to int64, v uint64) impl.WordResult {
	switch {
	case op == impl.OpZExt && from < to:
		return good(v)
	case op == impl.OpSExt && from < to:
		return good(wordOf(to, bigSigned(from, v)))
	case op == impl.OpTrunc && from > to:
		return good(wordOf(to, bigWord(v)))
	}
	return bad
}

func TestCast(t *testing.T) {
	for op := int64(-1); op <= 31; op++ {
		for _, from := range widths {
			for _, to := range widths {
				for _, v := range wordsToTry(from) {
					if got, want := impl.Cast(op, from, to, v), wantCast(op, from, to, v); got != want {
						t.Error("Cast", op, from, to, v, "gives", got, "not", want)
					}
				}
			}
		}
	}
}

func TestCastsGoBack(t *testing.T) {
	for i, low := range widths {
		for _, high := range widths[i+1:] {
			for _, v := range wordsToTry(low) {
				zero, sign := impl.Cast(impl.OpZExt, low, high, v), impl.Cast(impl.OpSExt, low, high, v)
				if impl.Cast(impl.OpTrunc, high, low, zero.Word) != good(v) || impl.Cast(impl.OpTrunc, high, low, sign.Word) != good(v) {
					t.Error("from", low, "to", high, "and back", v)
				}
				if impl.Signed(high, sign.Word) != impl.Signed(low, v) {
					t.Error("SExt", low, high, v, "gives", sign)
				}
			}
		}
	}
}

func TestCastOfWrongThings(t *testing.T) {
	for op := int64(impl.OpZExt); op <= impl.OpTrunc; op++ {
		for _, w := range strange {
			for _, other := range widths {
				if impl.Cast(op, w, other, 0) != bad || impl.Cast(op, other, w, 0) != bad || impl.Cast(op, w, w, 0) != bad {
					t.Error("Cast", op, w, other)
				}
			}
		}
		if impl.Cast(op, 8, 16, 256) != bad || impl.Cast(op, 16, 8, 1<<16) != bad || impl.Cast(op, 1, 64, 2) != bad || impl.Cast(op, 32, 1, 1<<63) != bad {
			t.Error("Cast", op, "of what is no word")
		}
	}
}

func TestFormatWord(t *testing.T) {
	for _, w := range widths {
		for _, v := range wordsToTry(w) {
			want := bigSigned(w, v).String()
			if w == 1 {
				want = bigWord(v).String()
			}
			if got := impl.FormatWord(w, v); got != want {
				t.Error("FormatWord", w, v, "gives", got, "not", want)
			}
			if got := impl.ParseWord(w, want); got != (impl.NumberResult{Good: true, Word: v}) {
				t.Error("ParseWord", w, want, "gives", got)
			}
		}
	}
	for _, w := range strange {
		if impl.FormatWord(w, 0) != "" || impl.FormatWord(w, 1) != "" {
			t.Error(w, "is no width")
		}
	}
	for _, w := range []int64{1, 8, 16, 32} {
		if impl.FormatWord(w, allOnes(w)+1) != "" || impl.FormatWord(w, 1<<64-1) != "" {
			t.Error("no word of width", w)
		}
	}
}

func TestParseWordWithinItsWidth(t *testing.T) {
	for n := int64(-70000); n <= 70000; n++ {
		text := strconv.FormatInt(n, 10)
		for _, w := range widths {
			least, most := -int64(1)<<(w-1), int64(allOnes(w)/2)
			if w == 1 {
				least, most = 0, 1
			}
			want := impl.NumberResult{}
			if least <= n && n <= most {
				want = impl.NumberResult{Good: true, Word: wordOf(w, big.NewInt(n))}
			}
			if got := impl.ParseWord(w, text); got != want {
				t.Fatal("ParseWord", w, text, "gives", got, "not", want)
			}
		}
	}
}

func TestParseWordOfOtherTexts(t *testing.T) {
	texts := []string{
		"", "-", "+", "--1", "-0", "00", "01", "-01", "+0", "+1", " 1", "1 ", "1\n", "- 1", "1-", "1.", "1.0", "1e1", "0x1", "1_0", "x", "a1", "1a", "\x00", "1\x00",
		"true", "poison", "null", "\xff", "\u0661", "\u22121", "\uff11",
		"9223372036854775808", "-9223372036854775809", "18446744073709551615", "18446744073709551616", "99999999999999999999", "340282366920938463463374607431768211456",
		strings.Repeat("0", 100000), strings.Repeat("9", 100000), "-" + strings.Repeat("1", 100000),
	}
	for _, text := range texts {
		for _, w := range append(widths, strange...) {
			if got := impl.ParseWord(w, text); got != (impl.NumberResult{}) {
				t.Errorf("ParseWord %d %.40q gives %v", w, text, got)
			}
		}
	}
	outside := map[int64][]string{
		1:  {"-1", "2", "3", "-2", "255"},
		8:  {"128", "-129", "255", "256", "-256"},
		16: {"32768", "-32769", "65535", "65536"},
		32: {"2147483648", "-2147483649", "4294967295", "4294967296"},
	}
	for w, list := range outside {
		for _, text := range list {
			if got := impl.ParseWord(w, text); got != (impl.NumberResult{}) {
				t.Error("ParseWord", w, text, "gives", got)
			}
		}
	}
	for _, w := range strange {
		if impl.ParseWord(w, "0").Good || impl.ParseWord(w, "1").Good {
			t.Error(w, "is no width")
		}
	}
}

// everything asks each function of the chapter at these arguments.
func everything(n, m, w int64, a, b uint64, text string) [10]any {
	return [10]any{
		impl.ValidWidth(w), impl.Cut(w, a), impl.Signed(w, a), impl.FlagsOf(n), impl.Arith(n, m, w, a, b),
		impl.Compare(n, w, a, b), impl.SwapPred(n), impl.Cast(n, m, w, a), impl.FormatWord(w, a), impl.ParseWord(w, text),
	}
}

func TestWordsAnswerAtEveryArgument(t *testing.T) {
	numbers := append(append([]int64{1, 4, 5, 6, 8, 10, 11, 16, 18, 32, 64}, strange...), -7)
	words := []uint64{0, 1, 255, 256, 1 << 63, 1<<64 - 1}
	ask := func(each func(at int, answer [10]any)) {
		at := 0
		for _, n := range numbers {
			for _, m := range numbers {
				for _, w := range numbers {
					for _, a := range words {
						each(at, everything(n, m, w, a, words[at%len(words)], strconv.FormatUint(a, 10)))
						at++
					}
				}
			}
		}
	}
	var first [][10]any
	ask(func(at int, answer [10]any) { first = append(first, answer) })
	ask(func(at int, answer [10]any) {
		if answer != first[at] {
			t.Error("asked again:", first[at], answer)
		}
	})
	for _, answer := range first {
		if r := answer[4].(impl.WordResult); r.Code != impl.WordOK && r.Word != 0 {
			t.Error("a word beside a code:", r)
		}
		if r := answer[9].(impl.NumberResult); !r.Good && r.Word != 0 {
			t.Error("a word that is not good:", r)
		}
	}
}
