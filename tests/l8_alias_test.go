package tests

import (
	"fmt"
	"math"
	"slices"
	"strings"
	"testing"

	"loop.example/g00010/impl"
)

// aliasCase is two pointers of a function with lines, and how many bytes are touched behind them.
type aliasCase struct {
	a    string
	na   int64
	b    string
	nb   int64
	want int64
}

// pointerArg is @g, @h, or %n.
func pointerArg(t *testing.T, text string) impl.Operand {
	t.Helper()
	var n int64
	switch {
	case text == "@g":
		return globalArg(0)
	case text == "@h":
		return globalArg(1)
	case text == "null":
		return nullArg()
	case text == "poison":
		return poisonArg(impl.TypePtr)
	}
	if _, err := fmt.Sscanf(text, "%%%d", &n); err != nil {
		t.Fatal(text, err)
	}
	return valueArg(impl.TypePtr, n)
}

func checkAliasCases(t *testing.T, lines string, list []aliasCase) {
	t.Helper()
	f := factFunc(t, lines)
	for _, c := range list {
		a, b := pointerArg(t, c.a), pointerArg(t, c.b)
		if got := checkAlias(t, f, a, c.na, b, c.nb); got != c.want {
			t.Errorf("%s: Alias of %s, %d and %s, %d gives %d, not %d", lines, c.a, c.na, c.b, c.nb, got, c.want)
		}
		checkPure(t, "Alias", f, func(f impl.Func) int64 { return impl.Alias(f, a, c.na, b, c.nb) })
	}
}

func TestAliasOfStretches(t *testing.T) {
	const may, none, must = impl.AliasMay, impl.AliasNone, impl.AliasMust
	const most, least = math.MaxInt64, math.MinInt64
	// %6 has the offset 8, %7 and %8 12, %9 and %10 -4.
	const lines = "%6 = offset %5, 8; %7 = offset %6, 4; %8 = offset %5, 12; %9 = offset %7, -16; %10 = offset %5, -4" + endLines
	checkAliasCases(t, lines, []aliasCase{
		{"%5", 4, "%5", 4, must},
		{"%5", 4, "%5", 5, may},
		{"%5", 8, "%6", 4, none},
		{"%5", 9, "%6", 4, may},
		{"%5", 7, "%6", 4, none},
		{"%6", 4, "%7", 4, none},
		{"%6", 5, "%7", 4, may},
		{"%6", 4, "%8", 1, none},
		{"%6", 8, "%8", 4, may},
		{"%7", 4, "%8", 4, must},
		{"%7", 4, "%8", 1, may},
		{"%9", 4, "%5", 4, none},
		{"%9", 5, "%5", 4, may},
		{"%9", 4, "%10", 4, must},
		{"%9", 12, "%6", 1, none},
		{"%9", 13, "%6", 1, may},
		// A size below 1 counts as 1.
		{"%5", 0, "%5", 0, must},
		{"%5", 0, "%5", 1, must},
		{"%5", -7, "%5", 0, must},
		{"%5", least, "%5", 1, must},
		{"%5", least, "%5", 2, may},
		{"%5", 0, "%5", 2, may},
		{"%5", 8, "%6", 0, none},
		{"%5", 9, "%6", -1, may},
		{"%6", 0, "%5", 12, may},
		{"%5", least, "%6", least, none},
		// Great sizes.
		{"%5", most, "%6", most, may},
		{"%5", most, "%5", most, must},
		{"%9", most, "%8", 1, may},
		{"%8", most, "%9", 15, none},
		{"%8", most, "%9", 16, none},
		{"%8", most, "%9", 17, may},
	})
	// Offsets far from each other, and sums that wrap.
	const far = "%6 = offset %5, 9223372036854775807; %7 = offset %5, -9223372036854775808; %8 = offset %6, 1; %9 = offset %7, -1; %10 = offset %7, 16; %11 = offset %8, -9223372036854775808; %12 = offset %6, -9223372036854775808; %13 = offset %12, 1" + endLines
	checkAliasCases(t, far, []aliasCase{
		{"%6", 1, "%7", 1, none},
		{"%6", most, "%7", most, none},
		{"%7", most, "%5", 1, none},
		{"%7", most, "%12", 1, none},
		{"%7", most, "%10", 1, may},
		{"%7", 16, "%10", 1, none},
		{"%7", 17, "%10", 1, may},
		{"%7", 4, "%8", 4, must},
		{"%6", 4, "%9", 4, must},
		{"%11", 4, "%5", 4, must},
		{"%13", 4, "%5", 4, must},
		{"%12", 1, "%5", 1, none},
		{"%12", 2, "%5", 1, may},
		{"%5", most, "%6", most, none},
		{"%12", most, "%6", 1, none},
		{"%5", most, "%6", 0, none},
	})
}

func TestAliasOfRoots(t *testing.T) {
	const may, none, must = impl.AliasMay, impl.AliasNone, impl.AliasMust
	const lines = "%6 = alloca 16; %7 = alloca 16; %8 = load ptr %6; %9 = load ptr %6; %10 = offset %6, %4; %11 = offset %6, %4; %12 = offset %10, 4; %13 = offset %11, 4; %14 = offset null, 4; %15 = offset poison, 4; %16 = offset @g, 4; %17 = offset @h, 4; %18 = select ptr %0, %6, %6; %19 = offset %7, 200; %20 = offset %6, poison; %21 = add i64 4, 0; %22 = offset %6, %21; %23 = offset %6, 4; %24 = offset @g, 4; %25 = offset null, 6; %26 = offset poison, 4; %27 = offset %8, 0; %28 = offset @g, %4" + endLines
	checkAliasCases(t, lines, []aliasCase{
		{"%6", 16, "%7", 16, none},
		{"%6", 16, "@g", 16, none},
		{"@g", 16, "@h", 16, none},
		{"@g", 16, "@g", 16, must},
		{"@g", 16, "@g", 15, may},
		{"%16", 4, "@g", 4, none},
		{"%16", 4, "@g", 5, may},
		{"%16", 4, "%24", 4, must},
		{"%16", 4, "%17", 4, none},
		{"%16", 4, "%6", 400, none},
		{"%6", 500, "%19", 4, none},
		// A parameter, a load, a select, an offset by what is no word: what they are is not told.
		{"%5", 4, "%6", 4, may},
		{"%5", 4, "@g", 4, may},
		{"%5", 4, "%8", 4, may},
		{"%8", 4, "%9", 4, may},
		{"%8", 4, "%8", 4, must},
		{"%8", 4, "%27", 4, must},
		{"%8", 4, "%6", 4, may},
		{"%8", 4, "@h", 4, may},
		{"%18", 4, "%6", 4, may},
		{"%18", 4, "%18", 4, must},
		{"%10", 4, "%6", 4, may},
		{"%10", 4, "%7", 4, may},
		{"%10", 4, "%11", 4, may},
		{"%10", 4, "%12", 4, none},
		{"%10", 5, "%12", 4, may},
		{"%12", 4, "%13", 4, may},
		{"%12", 4, "%12", 4, must},
		{"%20", 4, "%6", 4, may},
		{"%20", 4, "%20", 4, must},
		{"%22", 4, "%23", 4, may},
		{"%22", 4, "%7", 4, may},
		{"%28", 4, "@g", 4, may},
		{"%28", 4, "@h", 4, may},
		// Roots that are null or poison, which themselves are not asked about.
		{"%14", 4, "%25", 4, may},
		{"%14", 2, "%25", 4, none},
		{"%14", 4, "%14", 4, must},
		{"%14", 4, "%6", 4, may},
		{"%14", 4, "@g", 4, may},
		{"%14", 4, "%15", 4, may},
		{"%15", 4, "%26", 4, must},
		{"%15", 4, "%26", 5, may},
		{"null", 4, "null", 4, may},
		{"null", 4, "@g", 4, may},
		{"null", 4, "%14", 4, may},
		{"null", 4, "%6", 4, may},
		{"poison", 4, "poison", 4, may},
		{"poison", 4, "@g", 4, may},
		{"poison", 4, "%6", 4, may},
		// Values that are no pointers, and that there are not.
		{"%4", 4, "%4", 4, may},
		{"%4", 4, "@g", 4, may},
		{"%0", 4, "%6", 4, may},
		{"%21", 4, "%6", 4, may},
		{"%29", 4, "%29", 4, may},
		{"%29", 4, "%6", 4, may},
		{"%-1", 4, "%-1", 4, may},
		{"%-1", 4, "@g", 4, may},
	})
	// A phi, at a loop's head.
	checkAliasCases(t, "%6 = alloca 4; jump 1; 1:; %7 = phi ptr [%6, 0], [%8, 1]; %8 = offset %7, 1; jump 1", []aliasCase{
		{"%7", 1, "%8", 1, none},
		{"%7", 2, "%8", 1, may},
		{"%7", 1, "%6", 1, may},
		{"%8", 1, "@g", 1, may},
	})
	checkAliasCases(t, "%6 = call i8 @far(1)"+endLines, []aliasCase{{"%6", 1, "%6", 1, may}, {"%5", 1, "%6", 1, may}, {"%5", 3, "%5", 3, must}})
}

// TestAliasOfOtherOperands: of any numbers, kinds and types.
func TestAliasOfOtherOperands(t *testing.T) {
	f := factFunc(t, "%6 = alloca 16"+endLines)
	var list []impl.Operand
	for _, index := range []int64{math.MinInt64, -1, 0, 1, 4, 5, 6, 7, 11, 12, 255, 256, 1 << 32, math.MaxInt64} {
		for _, kind := range []int64{math.MinInt64, -1, 0, 1, 2, 3, 4, 5, 6, 4 + 1<<32, math.MaxInt64} {
			for _, kindOfType := range []int64{0, 1, 64, impl.TypePtr, impl.TypePtr + 1, -impl.TypePtr, impl.TypePtr + 1<<32} {
				list = append(list, impl.Operand{Kind: kind, Type: kindOfType, Index: index})
			}
		}
	}
	count := map[int64]int{}
	for _, a := range list {
		for _, b := range []impl.Operand{a, globalArg(0), globalArg(math.MaxInt64), valueArg(impl.TypePtr, 6), valueArg(impl.TypePtr, 5)} {
			count[checkAlias(t, f, a, 4, b, 4)]++
		}
	}
	// Fourteen globals and the two pointers are themselves, once more if they are among the four.
	if count[impl.AliasMust] != 14+2+4 || count[impl.AliasNone] != 13+13+14+1+1 {
		t.Error("of other operands", count)
	}
}

// roundFunc has so many offsets, each by a word of the next one, in a block that can't be come to; the last is of the first.
func roundFunc(words ...uint64) impl.Func {
	f := function("round", 0, block(alloca(4), ret()))
	var list []impl.Instr
	for n, word := range words {
		next := 1 + int64(n+1)%int64(len(words))
		list = append(list, ins(impl.OpOffset, impl.TypePtr, valueArg(impl.TypePtr, next), wordArg(64, word)))
	}
	f.Blocks = append(f.Blocks, block(append(list, trap())...))
	return f
}

// TestAliasOfOffsetsThatGoRound: behind 256 steps they are what was reached.
func TestAliasOfOffsetsThatGoRound(t *testing.T) {
	const may, none, must = impl.AliasMay, impl.AliasNone, impl.AliasMust
	p := func(n int64) impl.Operand { return valueArg(impl.TypePtr, n) }
	for _, c := range []struct {
		words []uint64
		a, b  int64
		size  int64
		want  int64
	}{
		{[]uint64{4}, 1, 1, 4, must},
		{[]uint64{4}, 0, 1, 4, may},
		// Of two, each one comes back to itself.
		{[]uint64{1, 3}, 1, 1, 4, must},
		{[]uint64{1, 3}, 1, 2, 4, may},
		// Of three, each one comes to the next one, whose offset it does not have again.
		{[]uint64{1, 3, 9}, 1, 1, 4, must},
		{[]uint64{1, 3, 9}, 1, 2, 4, may},
		{[]uint64{1, 3, 9}, 1, 3, 4, may},
		// Of five too, of seven the fourth one behind.
		{[]uint64{1, 3, 9, 27, 81}, 5, 1, 9000, may},
		{[]uint64{1, 3, 9, 27, 81, 3, 9}, 2, 2, 1, must},
		{[]uint64{1, 3, 9, 27, 81, 3, 9}, 2, 6, 1, may},
	} {
		f := roundFunc(c.words...)
		if fault := impl.Verify(ofFuncs(f)); fault.Code != 0 {
			t.Fatal(c.words, "has the fault", fault)
		}
		if got := checkAlias(t, f, p(c.a), c.size, p(c.b), c.size); got != c.want {
			t.Error(c.words, c.a, c.b, "are", got)
		}
	}
	// A value ahead of a round of three comes to the same one as another one of it, a step less far: the round's sum of 13 more or less.
	f := roundFunc(1, 3, 9)
	list := f.Blocks[1].Instrs
	f.Blocks[1].Instrs = append(append([]impl.Instr{}, list[:3]...), ins(impl.OpOffset, impl.TypePtr, p(1), wordArg(64, 100)), ins(impl.OpOffset, impl.TypePtr, p(4), wordArg(64, 1000)), trap())
	// %1 comes to %2 with 85*13 + 1, %4 to %1 with 85*13 + 100, %5 to %3 with 84*13 + 1 + 3 + 1100, %3 to %1 with 85*13 + 9.
	for _, c := range []struct{ a, b, na, nb, want int64 }{
		{4, 3, 1, 91, none}, {4, 3, 1, 92, may}, {4, 3, 1, 1, none}, {5, 2, 1, 1088, none}, {5, 2, 1, 1089, may}, {5, 1, 1, 1, may}, {4, 1, 1, 1, may}, {4, 2, 1, 1, may}, {1, 3, 1, 1, may},
	} {
		if got := checkAlias(t, f, p(c.a), c.na, p(c.b), c.nb); got != c.want {
			t.Error(c, "are", got)
		}
	}
}

// TestAliasOfLongWays: as many offsets one behind the other as a function has room for, and in a block that can't be come to.
func TestAliasOfLongWays(t *testing.T) {
	const may, none, must = impl.AliasMay, impl.AliasNone, impl.AliasMust
	p := func(n int64) impl.Operand { return valueArg(impl.TypePtr, n) }
	f := function("long", 0, block(alloca(256)))
	for n := range int64(254) {
		f.Blocks[0].Instrs = append(f.Blocks[0].Instrs, ins(impl.OpOffset, impl.TypePtr, p(n), wordArg(64, 1)))
	}
	f.Blocks[0].Instrs = append(f.Blocks[0].Instrs, ret())
	for _, c := range []struct{ a, b, size, want int64 }{{0, 254, 254, none}, {0, 254, 255, may}, {254, 254, 1, must}, {253, 254, 1, none}, {253, 254, 2, may}} {
		if got := checkAlias(t, f, p(c.a), c.size, p(c.b), c.size); got != c.want {
			t.Error(c, "are", got)
		}
	}
	if got := checkAlias(t, f, p(254), 1, globalArg(0), 1); got != none {
		t.Error("the end of a long way and a global are", got)
	}
	// 252 offsets in a round, and one that leads into it: 256 steps are once around and four more, or three.
	round := roundFunc(slices.Repeat([]uint64{1}, 252)...)
	list := round.Blocks[1].Instrs
	round.Blocks[1].Instrs = append(append([]impl.Instr{}, list[:252]...), ins(impl.OpOffset, impl.TypePtr, p(252), wordArg(64, 7)), trap())
	for _, c := range []struct{ a, b, size, want int64 }{{253, 251, 1, none}, {253, 251, 6, none}, {253, 251, 7, may}, {253, 252, 1, may}, {252, 252, 9, must}, {1, 252, 1, may}} {
		if got := checkAlias(t, round, p(c.a), c.size, p(c.b), c.size); got != c.want {
			t.Error(c, "are", got)
		}
	}
	if text := impl.FormatModule(ofFuncs(round)); strings.Count(text, "offset") != 253 {
		t.Error("the round has the text", text)
	}
}
