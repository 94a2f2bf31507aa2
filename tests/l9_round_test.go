package tests

import (
	"fmt"
	"math/big"
	"strings"
	"testing"

	"loop.example/g00010/impl"
)

// islandOf is a function with these lines, a semicolon between, in a block that can't be come to: there values may be made of themselves.
func islandOf(t *testing.T, lines string) impl.Func {
	t.Helper()
	text := "func @f strong () void {\n0:\n  return\n1:\n  " + strings.ReplaceAll(lines, "; ", "\n  ") + "\n  return\n}\n"
	m := moduleOf(t, text)
	if fault := impl.Verify(m); fault.Code != 0 {
		t.Fatal(lines, "has the fault", fault)
	}
	return m.Funcs[0]
}

// TestFoldOnceWhatGoesRound: rule 8 asks nothing more of a value than that the same operation defines it with a word.
func TestFoldOnceWhatGoesRound(t *testing.T) {
	for _, c := range []struct{ lines, want string }{
		{"%0 = offset %0, 4611686018427387904; %1 = offset %0, 3", "%0 = offset %0, 4611686018427387904; %1 = offset %0, 4611686018427387907"},
		{"%0 = add i8 %1, 5; %1 = add i8 %1, 1", "%0 = add i8 %1, 6; %1 = add i8 %1, 1"},
		{"%0 = or i8 %1, 4; %1 = or i8 %1, 1", "%0 = or i8 %1, 5; %1 = or i8 %1, 1"},
		{"%0 = and i16 %1, 6; %1 = and i16 %1, 3", "%0 = and i16 %1, 2; %1 = and i16 %1, 3"},
		{"%0 = xor i1 %1, 1; %1 = xor i1 %1, 1", "%0 = xor i1 %1, 0; %1 = xor i1 %1, 1"},
		{"%0 = add nuw nsw i64 %1, 5; %1 = add i64 %2, 1; %2 = add i64 %1, 1", "%0 = add i64 %2, 6; %1 = add i64 %2, 1; %2 = add i64 %1, 1"},
		{"%0 = add i32 %1, 5; %1 = add i32 %1, 0", "%0 = add i32 %1, 5; %1 = add i32 %1, 0"},
		{"%0 = add nsw i32 %1, 5; %1 = add i32 %1, 0", "%0 = add i32 %1, 5; %1 = add i32 %1, 0"},
		{"%0 = offset %1, 5; %1 = offset %1, -9", "%0 = offset %1, -4; %1 = offset %1, -9"},
		{"%0 = offset %1, 9223372036854775807; %1 = offset %1, 1", "%0 = offset %1, 9223372036854775807; %1 = offset %1, 2"},
		// The rule applies, and leaves all as it is.
		{"%0 = or i8 %0, 3", "%0 = or i8 %0, 3"},
		{"%0 = and i8 %0, 3; %1 = add i8 1, 2", "%0 = and i8 %0, 3; %1 = add i8 1, 2"},
		{"%0 = or i8 %1, 5; %1 = or i8 %1, 1", "%0 = or i8 %1, 5; %1 = or i8 %1, 1"},
		{"%0 = offset %1, 5; %1 = offset %1, 0", "%0 = offset %1, 5; %1 = offset %1, 0"},
	} {
		f, want := islandOf(t, c.lines), islandOf(t, c.want)
		if got := impl.FoldOnce(f); !got.Done || !alike(got.Func, want) {
			t.Errorf("%s gives %v\n%s", c.lines, got.Done, textOf(got.Func))
		}
		checkFold(t, f)
	}
	for _, lines := range []string{
		"%0 = offset %0, 4611686018427387904; %1 = offset %0, 4611686018427387904",
		"%0 = offset %0, -9223372036854775808; %1 = offset %0, -1",
		"%0 = mul i8 %0, 3; %1 = shl i8 %0, 3; %2 = xor i8 %0, 3",
	} {
		f := islandOf(t, lines)
		if got := impl.FoldOnce(f); got.Done || !alike(got.Func, f) || !alike(impl.Fold(f), f) {
			t.Errorf("%s gives %v\n%s", lines, got.Done, textOf(got.Func))
		}
	}
}

// TestFoldLongWays: Fold answers the end, however many steps there are ahead of it. A sum is told from another value by the difference of both, which is 0 if it is dropped for that value.
func TestFoldLongWays(t *testing.T) {
	for _, c := range []struct{ lines, want string }{
		// 5 and one more 2^64 - 5 times; by twos it never comes to 0.
		{"%0 = add i64 %2, 5; %1 = sub i64 %0, %2; %2 = add i64 %2, 1; print %1", "print 0"},
		{"%0 = add i64 %2, 5; %1 = sub i64 %0, %2; %2 = add i64 %2, -1; print %1", "print 0"},
		{"%0 = add i64 %2, 5; %1 = sub i64 %0, %2; %2 = add i64 %2, 2; print %1", "print poison"},
		{"%0 = add i64 %2, 6; %1 = sub i64 %0, %2; %2 = add i64 %2, 4; print %1", "print poison"},
		{"%0 = add i64 %2, 6; %1 = sub i64 %0, %2; %2 = add i64 %2, 2; print %1", "print 0"},
		{"%0 = add nuw nsw i64 %2, 4; %1 = sub i64 %0, %2; %2 = add nuw i64 %2, 12; print %1", "print 0"},
		{"%0 = add i32 %2, 12345; %1 = sub i32 %0, %2; %2 = add i32 %2, 777; %3 = zext i32 %1 to i64; print %3", "print 0"},
		{"%0 = add i16 %2, 0; %1 = sub i16 %0, %2; %2 = add i16 %2, 777; %3 = zext i16 %1 to i64; print %3", "print 0"},
		{"%0 = add i64 5, %2; %1 = sub i64 %0, %2; %2 = sub i64 %2, -1; print %1", "print 0"},
		// 8 and 3 n are 2^65 ahead of where 6 and 3 n are 3 times 2^64.
		{"%0 = add i64 %3, 5; %1 = sub i64 %0, %3; %2 = sub i64 %0, %4; %3 = add i64 %4, 1; %4 = add i64 %3, 2; print %1; print %2", "print 0; print poison"},
		// Two of one sum.
		{"%0 = add i64 %1, 7; %1 = add i64 %4, 5; %2 = sub i64 %0, %4; %3 = sub i64 %1, %4; %4 = add i64 %4, 3; print %2; print %3", "print 0; print 0"},
		{"%0 = xor i64 %2, 5; %1 = sub i64 %0, %2; %2 = xor i64 %2, 5; print %1", "print 0"},
		{"%0 = xor i64 %2, 5; %1 = sub i64 %0, %2; %2 = xor i64 %2, 4; print %1", "print poison"},
		{"%0 = xor i64 %3, 5; %1 = sub i64 %0, %3; %2 = sub i64 %0, %4; %3 = xor i64 %4, 1; %4 = xor i64 %3, 5; print %1; print %2", "print poison; print 0"},
		{"%0 = and i64 %2, 5; %1 = and i64 %2, 6; %2 = and i64 %3, 3; %3 = and i64 %2, 12; print %0; print %1; print %2", "print 0; print 0; print 0"},
		{"%0 = or i64 %1, 4; %1 = or i64 %1, 1; print %0", "%0 = or i64 %1, 5; %1 = or i64 %1, 1; print %0"},
		{"%0 = or i64 %0, 1; %1 = add i64 1, 2; print %1; print %0", "%0 = or i64 %0, 1; print 3; print %0"},
		// Up and down to 0, past it to the end of what is a signed number, and to it.
		{"%0 = offset %1, -9223372036854775808; %1 = offset %1, 1; store i8 1, %0", "%0 = offset %0, 4611686018427387904; store i8 1, %0"},
		{"%0 = offset %1, -9223372036854775807; %1 = offset %1, 2; store i8 1, %0", "%0 = offset %1, 9223372036854775807; %1 = offset %1, 4611686018427387904; store i8 1, %0"},
		{"%0 = offset %1, 3; %1 = offset %1, 1; store i8 1, %0", "%0 = offset %1, 9223372036854775807; %1 = offset %1, 4611686018427387904; store i8 1, %0"},
		{"%0 = offset %1, 9223372036854775807; %1 = offset %1, -1; store i8 1, %0", "%0 = offset %0, -9223372036854775808; store i8 1, %0"},
		{"%0 = offset %1, 9223372036854775807; %1 = offset %1, -2; store i8 1, %0", "%0 = offset %1, -9223372036854775807; %1 = offset %1, -9223372036854775808; store i8 1, %0"},
		{"%0 = offset %1, -3; %1 = offset %1, -1; store i8 1, %0", "%0 = offset %1, -9223372036854775808; %1 = offset %1, -9223372036854775808; store i8 1, %0"},
		{"%0 = offset %1, 9223372036854775807; %1 = offset %1, -4611686018427387904; store i8 1, %0", "%0 = offset %1, -4611686018427387905; %1 = offset %1, -9223372036854775808; store i8 1, %0"},
		// An offset ahead has its turn as soon as its sum is a signed number.
		{"%0 = offset %1, -4611686018427387905; %1 = offset %2, -9223372036854775807; %2 = offset %2, 2; store i8 1, %0; store i8 2, %1",
			"%0 = offset %1, 9223372036854775807; %1 = offset %1, 4611686018427387904; store i8 1, %1; store i8 2, %0"},
		{"%0 = offset %1, 4611686018427387905; %1 = offset %2, 9223372036854775807; %2 = offset %2, -2; store i8 1, %0; store i8 2, %1",
			"%0 = offset %1, -9223372036854775807; %1 = offset %1, -9223372036854775808; store i8 1, %1; store i8 2, %0"},
		// By 1 and -1 in turns it comes back; the round itself comes to 0.
		{"%0 = offset %1, 5; %1 = offset %2, 1; %2 = offset %1, -1; store i8 1, %0", "store i8 1, poison"},
		// What comes back stays; the one of which it is made comes back too then, and does not go on for its sake.
		{"%0 = offset %2, -5; %1 = offset %2, 2305843009213693952; %2 = offset %3, 4611686018427387904; %3 = offset %4, 4611686018427387903; %4 = offset %5, -4611686018427387904; %5 = offset %1, -6917529027641081855; store i8 1, %0", "store i8 1, poison"},
		// Another operation between ends the round.
		{"%0 = add i64 %1, 1; %1 = add i64 %2, 2; %2 = and i64 %1, 4; print %0", "%0 = add i64 %2, 3; %1 = add i64 %2, 2; %2 = and i64 %1, 4; print %0"},
		{"%0 = offset %2, -1; %1 = cmp eq ptr %0, %3; %2 = offset %3, 1; %3 = offset %2, -1; store i1 %1, %0", "store i1 1, poison"},
	} {
		f := islandOf(t, c.lines)
		got := impl.Fold(f)
		if !alike(got, islandOf(t, c.want)) {
			t.Errorf("%s gives\n%s", c.lines, textOf(got))
		}
		if !alike(impl.Fold(got), got) {
			t.Error(c.lines, "is not folded in one go")
		}
	}
}

// wantTurn is at which value of a round a sum comes to 0 first; -1 if at none. The first of the words is that of the value to which it goes from the start.
func wantTurn(w int64, from uint64, words []uint64) int {
	by := new(big.Int)
	for _, v := range words {
		by.Add(by, bigWord(v))
	}
	common := new(big.Int).GCD(nil, nil, by, power(w))
	space := new(big.Int).Div(power(w), common)
	inverse := new(big.Int).ModInverse(new(big.Int).Div(by, common), space)
	now, least, turn := bigWord(from), power(w), -1
	for n, v := range words {
		now.Add(now, bigWord(v))
		if new(big.Int).Mod(now, common).Sign() != 0 {
			continue
		}
		rounds := new(big.Int).Div(now, common)
		rounds.Mul(rounds, inverse)
		rounds.Mod(rounds.Neg(rounds), space)
		if rounds.Cmp(least) < 0 {
			least, turn = rounds, (n+1)%len(words)
		}
	}
	return turn
}

// drawSum is a sum that goes round some values, and the differences of it and each of them, which are stored; behind the sum stands the one that tells where it goes.
func drawSum(numbers *sequence) (lines string, turn, k int) {
	s := shaper{sequence: numbers}
	w, k := s.oneOf(8, 16, 32, 64), 1+s.below(5)
	word := func() uint64 { return max(1, s.word(w)>>s.below(int(w))<<s.below(int(w))&allOnes(w)) }
	from := word()
	var words []uint64
	var sums, ends []string
	lines = fmt.Sprintf("%%0 = add T %%%d, %s; ", 1+k, impl.FormatWord(w, from))
	for n := range k {
		words = append(words, word())
		lines += fmt.Sprintf("%%%d = sub T %%0, %%%d; ", 1+n, 1+k+n)
		sums = append(sums, fmt.Sprintf("%%%d = add T %%%d, %s", 1+k+n, 1+k+(n+1)%k, impl.FormatWord(w, words[n])))
		ends = append(ends, fmt.Sprintf("store T %%%d, null", 1+n))
	}
	return atWidth(w, lines+strings.Join(append(sums, ends...), "; ")), wantTurn(w, from, words), k
}

// TestFoldSumsThatGoRound: a sum goes round values that are made of each other until it is 0, and is dropped for the value where that is.
func TestFoldSumsThatGoRound(t *testing.T) {
	s := sequence(96)
	ends := 0
	for range 5000 {
		lines, turn, k := drawSum(&s)
		f := islandOf(t, lines)
		got := impl.Fold(f)
		if again := impl.Fold(got); !alike(again, got) {
			t.Fatalf("%s folded twice gives\n%snot\n%s", lines, textOf(again), textOf(got))
		}
		list := got.Blocks[1].Instrs
		if turn < 0 && k > 1 {
			continue
		}
		ends++
		if len(list) != k+1 || turn >= 0 && list[turn].Args[0] != wordArg(list[turn].Args[0].Type, 0) || turn < 0 && list[0].Args[0].Kind != impl.OperandPoison {
			t.Fatalf("%s gives\n%snot the turn %d", lines, textOf(got), turn)
		}
	}
	if ends < 1000 {
		t.Error(ends, "of the sums come to an end")
	}
}

// wheelWord is a word of which few make a long way, or just beside one of those.
func (s *shaper) wheelWord(op, w int64) uint64 {
	if op != impl.OpOffset {
		return uint64(s.below(256)) << max(0, w-8+int64(s.below(3))) >> max(0, 8-w) & allOnes(w)
	}
	v := uint64(1) << (s.below(6) + 58)
	if s.below(3) == 0 {
		v = uint64(1) << s.below(64)
	}
	if s.below(2) == 0 {
		v = -v
	}
	if s.below(3) == 0 {
		v += uint64(s.below(9)) - 4
	}
	return v
}

// drawWheels is a function of one operation with words again and again, each of any other one or of itself, and of some that tell them apart.
func drawWheels(numbers *sequence) impl.Func {
	s := shaper{sequence: numbers}
	op, w := s.oneOf(impl.OpAdd, impl.OpAnd, impl.OpOr, impl.OpXor, impl.OpOffset, impl.OpOffset, impl.OpOffset), s.oneOf(1, 8, 8, 64)
	own := w
	if op == impl.OpOffset {
		own, w = impl.TypePtr, 64
	}
	count := 2 + s.below(6)
	var list, ends []impl.Instr
	for n := range int64(count) {
		i := ins(op, own, valueArg(own, int64(s.below(count))), wordArg(w, s.wheelWord(op, w)))
		if s.below(4) == 0 {
			i.Flags = impl.FlagsOf(op) & int64(s.below(4))
		}
		list = append(list, i)
		ends = append(ends, ins(impl.OpStore, 0, valueArg(own, n), nullArg()))
	}
	for range s.below(3) {
		n := s.below(count)
		list[n] = ins(impl.OpSelect, own, wordArg(1, 1), valueArg(own, int64(s.below(count))), poisonArg(own))
	}
	return function("wheels", 0, block(ret()), block(append(append(list, ends...), ret())...))
}

// drawWaiting is a function of offsets that go up and down in each round, and by little in all, and of others ahead of those that go round, whose sums with these are no signed numbers yet.
func drawWaiting(numbers *sequence) impl.Func {
	s := shaper{sequence: numbers}
	waiting, going, round := 1+s.below(3), 1+s.below(2), 2+s.below(2)
	count := waiting + going + round
	var list []impl.Instr
	add := func(to int, v uint64) {
		list = append(list, ins(impl.OpOffset, impl.TypePtr, valueArg(impl.TypePtr, int64(to)), wordArg(64, v)))
	}
	less := func(k int) uint64 { return s.next() >> 1 >> s.below(k) }
	sign := 1 - 2*uint64(s.below(2))
	for range waiting {
		add(waiting+s.below(going), sign*(1<<63-1-less(5)))
	}
	for range going {
		add(waiting+going+s.below(round), sign*(1<<63-1-less(8)))
	}
	sum := uint64(0)
	for n := range round {
		v := (1 - 2*uint64(n%2)) * less(20)
		if n == round-1 {
			v = sign*(less(20)>>32+1)*(1-2*uint64(s.below(6)/5)) - sum
		}
		sum += v
		add(waiting+going+(n+1)%round, v)
	}
	for n := range count {
		list = append(list, ins(impl.OpStore, 0, valueArg(impl.TypePtr, int64(n)), nullArg()))
	}
	return function("waiting", 0, block(ret()), block(append(list, ret())...))
}

func TestFoldOffsetsThatWait(t *testing.T) {
	t.Parallel()
	s := sequence(98)
	changed := 0
	for range 600 {
		f := drawWaiting(&s)
		want, told := wantFold(f)
		if !told {
			t.Fatalf("the end of this is not told:\n%s", textOf(f))
		}
		if got := impl.Fold(f); !alike(got, want) {
			t.Fatalf("Fold gives\n%snot\n%sof\n%s", textOf(got), textOf(want), textOf(f))
		}
		if !alike(want, f) {
			changed++
		}
	}
	if changed < 500 {
		t.Error(changed, "functions are changed")
	}
}

// TestFoldWheels holds the folding of what goes round against the words of the document, far ways too.
func TestFoldWheels(t *testing.T) {
	t.Parallel()
	s := sequence(97)
	far, endless := 0, 0
	for n := range 1600 {
		f := drawWheels(&s)
		if !wantWellMade(f) {
			t.Fatal("the test's function is not well-made:", f)
		}
		if _, told := wantFold(f); !told {
			t.Fatalf("the end of this is not told:\n%s", textOf(f))
		}
		folded, count := checkFold(t, f)
		if count[8] == longWay/4 {
			far++
		}
		if impl.FoldOnce(folded).Done {
			endless++
		}
		if n%16 == 0 {
			checkPure(t, "Fold", f, impl.Fold)
			checkPure(t, "FoldOnce", f, impl.FoldOnce)
		}
	}
	if far < 50 || endless < 50 {
		t.Error(far, "have a long way", endless, "are not at an end")
	}
}

// greatWheel has as many instructions of an operation as there may be. Half of them are made of each other in one round, the others hang on it: each on another one, all on one, or each on the next.
func greatWheel(op int64, hang int, words func(n uint64) uint64) impl.Func {
	const half = 127
	own := int64(64)
	if op == impl.OpOffset {
		own = impl.TypePtr
	}
	var hanging, round []impl.Instr
	for n := range int64(half) {
		to := [3]int64{half + n, half, n + 1}[hang]
		hanging = append(hanging, ins(op, own, valueArg(own, to), wordArg(64, words(uint64(3*n))|1)))
		round = append(round, ins(op, own, valueArg(own, half+(n+1)%half), wordArg(64, words(uint64(n))&^1)))
	}
	return function("wheel", 0, block(ret()), block(append(append(hanging, round...), ret())...))
}

func TestFoldGreatWheelsInTime(t *testing.T) {
	t.Parallel()
	for _, op := range []int64{impl.OpAdd, impl.OpAnd, impl.OpOr, impl.OpXor, impl.OpOffset} {
		for hang := range 3 {
			f := greatWheel(op, hang, func(n uint64) uint64 { return n<<32 + 8 - 16*(n&1) })
			if !wantWellMade(f) {
				t.Fatal("the test's function is not well-made")
			}
			var folded impl.Func
			inTime(t, fmt.Sprint(op, " ", hang), func() { folded = impl.Fold(f) })
			if again := impl.Fold(folded); !alike(again, folded) {
				t.Errorf("%d %d folded twice gives\n%snot\n%s", op, hang, textOf(again), textOf(folded))
			}
		}
	}
}
