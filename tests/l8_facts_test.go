package tests

import (
	"fmt"
	"strings"
	"testing"

	"loop.example/g00010/impl"
)

// factFunc is a function with a parameter of each type: %0 to %4 are of the widths, %5 is a pointer. Its lines have a semicolon between.
func factFunc(t *testing.T, lines string) impl.Func {
	t.Helper()
	text := "global @g strong 16\nglobal @h strong 16\nfunc @f strong (i1, i8, i16, i32, i64, ptr) i64 {\n0:\n"
	for _, line := range strings.Split(lines, "; ") {
		if !strings.HasSuffix(line, ":") && line != "" {
			line = "  " + line
		}
		text += line + "\n"
	}
	m := moduleOf(t, strings.ReplaceAll(text, "\n\n", "\n")+"}\nfunc @far extern (i8) i8\n")
	if code := impl.Verify(m).Code; code != 0 {
		t.Fatal(lines, "has the fault", code)
	}
	return m.Funcs[0]
}

// bitCase is what is known of the bits of a value, the highest first, with blanks between.
type bitCase struct {
	lines string
	want  string
}

const endLines = "; return i64 0"

// lastOf is the value that is defined last.
func lastOf(f impl.Func) int64 {
	types, _ := wantValues(f)
	return int64(len(types) - 1)
}

func checkBitCases(t *testing.T, list []bitCase) {
	t.Helper()
	for _, c := range list {
		f := factFunc(t, c.lines+endLines)
		checkFacts(t, f)
		want := knownOf(reversed(strings.ReplaceAll(c.want, " ", "")))
		if got := impl.KnownBits(f); got[lastOf(f)] != want {
			t.Errorf("%s: KnownBits gives %v, not %v", c.lines, got[lastOf(f)], want)
		}
	}
}

// some is a value %7 of width 8, of which the bits are 010? ?101.
const some = "%6 = and i8 %1, 93; %7 = or i8 %6, 69; "

// other is a value %9 behind it, of which the bits are ?1?0 10?0.
const other = some + "%8 = or i8 %1, 72; %9 = and i8 %8, -22; "

func TestBitsOfOperations(t *testing.T) {
	checkBitCases(t, []bitCase{
		{"%6 = or i8 %1, 0", "???? ????"},
		{"%6 = and i8 5, -1", "0000 0101"},
		{"%6 = or i8 -128, 3", "1000 0011"},
		{strings.TrimSuffix(some, "; "), "010? ?101"},
		{strings.TrimSuffix(other, "; "), "?1?0 10?0"},
		{other + "%10 = and i8 %7, %9", "0100 ?000"},
		{other + "%10 = or i8 %7, %9", "?1?? 11?1"},
		{other + "%10 = xor i8 %7, %9", "?0?? ?1?1"},
		{other + "%10 = xor i8 %9, %7", "?0?? ?1?1"},
		{"%6 = xor i8 %1, %1", "???? ????"},
		{"%6 = xor i8 %1, -1", "???? ????"},
		{"%6 = and i8 poison, 15", "0000 ????"},
		{"%6 = or i8 15, poison", "???? 1111"},
		{"%6 = xor i8 poison, 15", "???? ????"},
		// Sums: the lowest bits without a gap, with what is carried, whatever the flags.
		{some + "%8 = add i8 %7, 3", "???? ?000"},
		{some + "%8 = add i8 3, %7", "???? ?000"},
		{some + "%8 = sub i8 %7, 6", "???? ?111"},
		{some + "%8 = sub i8 6, %7", "???? ?001"},
		{some + "%8 = add nuw nsw i8 %7, %7", "???? ?010"},
		{other + "%10 = add i8 %7, %9", "???? ???1"},
		{other + "%10 = sub i8 %9, %7", "???? ???1"},
		{"%6 = or i8 %1, -2; %7 = add i8 %6, 1", "???? ????"},
		{"%6 = add i8 100, 100", "1100 1000"},
		{"%6 = sub i8 3, 5", "1111 1110"},
		{"%6 = add i8 100, poison", "???? ????"},
		{"%6 = add nsw i8 100, 100", "1100 1000"},
		// Products: the lowest zeros alone, eight at most.
		{"%6 = mul i8 3, 5", "???? ????"},
		{"%6 = mul i8 12, 10", "???? ?000"},
		{"%6 = mul i8 %1, 0", "0000 0000"},
		{"%6 = mul i8 0, 0", "0000 0000"},
		{"%6 = mul i8 16, 16", "0000 0000"},
		{"%6 = mul i8 16, 32", "0000 0000"},
		{"%6 = mul i8 16, 8", "?000 0000"},
		{"%6 = shl i8 %1, 3; %7 = and i8 %1, -3; %8 = mul i8 %6, %7", "???? ?000"},
		{"%6 = shl i8 %1, 3; %7 = and i8 %1, -4; %8 = mul i8 %7, %6", "???0 0000"},
		{"%6 = mul nuw i8 %1, 4", "???? ??00"},
		{"%6 = mul i8 4, poison", "???? ??00"},
		// Remainders by words.
		{some + "%8 = urem i8 %7, 1", "0000 0000"},
		{some + "%8 = urem i8 %7, 2", "0000 0001"},
		{some + "%8 = urem i8 %7, 16", "0000 ?101"},
		{some + "%8 = urem i8 %7, -128", "010? ?101"},
		{some + "%8 = urem i8 %7, 0", "???? ????"},
		{some + "%8 = urem i8 %7, 3", "???? ????"},
		{some + "%8 = urem i8 %7, -1", "???? ????"},
		{some + "%8 = urem i8 %7, 24", "???? ????"},
		{"%6 = and i8 4, 4; %7 = urem i8 %1, %6", "???? ????"},
		{"%6 = urem i8 4, %1", "???? ????"},
		{"%6 = urem i8 29, 8", "0000 0101"},
		{"%6 = urem i8 poison, 8", "0000 0???"},
		// The other divisions, and what is none of these.
		{"%6 = udiv i8 4, 1", "???? ????"},
		{"%6 = sdiv i8 4, 1", "???? ????"},
		{"%6 = srem i8 4, 4", "???? ????"},
		{"%6 = udiv exact i8 %1, 64", "???? ????"},
		{"%6 = cmp eq i8 5, 5", "?"},
		{"%6 = call i8 @far(3)", "???? ????"},
		{"%6 = load i8 @g", "???? ????"},
		// What defines no value stands between.
		{some + "print 5; store i8 %7, @g; %8 = add i8 %7, 3", "???? ?000"},
	})
}

func TestBitsOfShifts(t *testing.T) {
	checkBitCases(t, []bitCase{
		{some + "%8 = shl i8 %7, 0", "010? ?101"},
		{some + "%8 = shl i8 %7, 1", "10?? 1010"},
		{some + "%8 = shl i8 %7, 7", "1000 0000"},
		{some + "%8 = shl i8 %7, 8", "???? ????"},
		{some + "%8 = shl i8 %7, 9", "???? ????"},
		{some + "%8 = shl i8 %7, -1", "???? ????"},
		{some + "%8 = lshr i8 %7, 0", "010? ?101"},
		{some + "%8 = lshr i8 %7, 2", "0001 0??1"},
		{some + "%8 = lshr i8 %7, 7", "0000 0000"},
		{some + "%8 = lshr i8 %7, 8", "???? ????"},
		{some + "%8 = ashr i8 %7, 0", "010? ?101"},
		{some + "%8 = ashr i8 %7, 2", "0001 0??1"},
		{some + "%8 = ashr i8 %7, 7", "0000 0000"},
		{some + "%8 = ashr i8 %7, 8", "???? ????"},
		{other + "%10 = ashr i8 %9, 0", "?1?0 10?0"},
		{other + "%10 = ashr i8 %9, 2", "???1 ?010"},
		{other + "%10 = ashr i8 %9, 7", "???? ????"},
		{other + "%10 = lshr i8 %9, 2", "00?1 ?010"},
		{"%6 = or i8 %1, -124; %7 = ashr i8 %6, 2", "111? ???1"},
		{"%6 = or i8 %1, -124; %7 = ashr exact i8 %6, 7", "1111 1111"},
		{"%6 = or i8 %1, -124; %7 = lshr i8 %6, 7", "0000 0001"},
		{"%6 = ashr i8 -128, 3", "1111 0000"},
		{"%6 = ashr i8 poison, 3", "???? ????"},
		{"%6 = shl nuw i8 poison, 3", "???? ?000"},
		{"%6 = lshr i8 poison, 3", "000? ????"},
		{"%6 = shl i8 1, poison", "???? ????"},
		{"%6 = lshr i8 1, %1", "???? ????"},
		{"%6 = and i8 1, 1; %7 = shl i8 1, %6", "???? ????"},
		{"%6 = and i8 1, 1; %7 = ashr i8 1, %6", "???? ????"},
		{"%6 = shl i1 %0, 0", "?"},
		{"%6 = shl i1 1, 0", "1"},
		{"%6 = shl i1 1, 1", "?"},
		{"%6 = lshr i1 1, 1", "?"},
		{"%6 = ashr i1 1, 0", "1"},
	})
}

func TestBitsOfCastsAndChoices(t *testing.T) {
	checkBitCases(t, []bitCase{
		{some + "%8 = zext i8 %7 to i16", "0000 0000 010? ?101"},
		{some + "%8 = sext i8 %7 to i16", "0000 0000 010? ?101"},
		{other + "%10 = sext i8 %9 to i16", "???? ???? ?1?0 10?0"},
		{other + "%10 = zext i8 %9 to i16", "0000 0000 ?1?0 10?0"},
		{"%6 = or i8 %1, -128; %7 = sext i8 %6 to i16", "1111 1111 1??? ????"},
		{"%6 = sext i1 1 to i8", "1111 1111"},
		{"%6 = sext i1 0 to i8", "0000 0000"},
		{"%6 = sext i1 %0 to i8", "???? ????"},
		{"%6 = zext i1 %0 to i8", "0000 000?"},
		{"%6 = zext i8 poison to i16", "0000 0000 ???? ????"},
		{"%6 = sext i8 poison to i16", "???? ???? ???? ????"},
		{"%6 = shl i16 %2, 4; %7 = or i16 %6, 256; %8 = trunc i16 %7 to i8", "???? 0000"},
		{"%6 = shl i16 %2, 4; %7 = or i16 %6, 257; %8 = trunc i16 %7 to i1", "1"},
		{"%6 = trunc i64 poison to i8", "???? ????"},
		{some + "%8 = select i8 %0, %7, 77", "010? ?101"},
		{some + "%8 = select i8 %0, 77, %7", "010? ?101"},
		{some + "%8 = select i8 1, %7, %1", "???? ????"},
		{some + "%8 = select i8 0, 15, -16", "???? ????"},
		{some + "%8 = select i8 poison, 15, 15", "0000 1111"},
		{some + "%8 = select i8 %0, 15, poison", "???? ????"},
		{"%6 = select ptr %0, @g, @g", ""},
		{"%6 = alloca 8", ""},
		{"%6 = offset @g, 8", ""},
		{"%6 = load ptr @g", ""},
	})
}

// spanCase is from where to where the value that is defined last goes.
type spanCase struct {
	lines     string
	low, high uint64
}

func checkSpanCases(t *testing.T, list []spanCase) {
	t.Helper()
	for _, c := range list {
		f := factFunc(t, c.lines+endLines)
		checkFacts(t, f)
		want := impl.Span{Low: c.low, High: c.high}
		if got := impl.Spans(f); got[lastOf(f)] != want {
			t.Errorf("%s: Spans gives %v, not %v", c.lines, got[lastOf(f)], want)
		}
	}
}

// between is a value of width 8 from low to high, which are not as far as 255 from each other, and the number of the next value.
func between(first int, low, high uint64) (string, int) {
	text := fmt.Sprintf("%%%d = urem i8 %%1, %s; %%%d = add i8 %%%d, %s; ", first, impl.FormatWord(8, high-low+1), first+1, first, impl.FormatWord(8, low))
	return text, first + 2
}

func TestSpansOfOperations(t *testing.T) {
	checkSpanCases(t, []spanCase{
		{"%6 = urem i8 %1, 10", 0, 9},
		{"%6 = urem i8 %1, 10; %7 = add i8 %6, 20", 20, 29},
		{"%6 = or i8 %1, 0", 0, 255},
		{"%6 = and i8 %1, 0", 0, 0},
		{"%6 = call i8 @far(3)", 0, 255},
		{"%6 = load i8 @g", 0, 255},
		{"%6 = add i8 poison, 0", 0, 255},
		{"%6 = cmp ult i8 1, 2", 0, 1},
		{"%6 = shl i8 1, 1", 0, 255},
		{"%6 = ashr i8 1, 1", 0, 255},
		{"%6 = sdiv i8 1, 1", 0, 255},
		{"%6 = srem i8 1, 2", 0, 255},
		{"%6 = sext i8 1 to i16", 0, 65535},
		{"%6 = lshr i8 %1, 0", 0, 255},
		{"%6 = lshr i8 %1, 7", 0, 1},
		{"%6 = lshr i8 %1, 8", 0, 255},
		{"%6 = lshr i8 1, -1", 0, 255},
		{"%6 = lshr i8 1, %1", 0, 255},
		{"%6 = and i8 1, 1; %7 = lshr i8 1, %6", 0, 255},
		{"%6 = lshr i8 -128, 3", 16, 16},
		{"%6 = lshr i8 poison, 3", 0, 31},
		{"%6 = zext i8 %1 to i64", 0, 255},
		{"%6 = zext i8 -1 to i64", 255, 255},
		{"%6 = zext i8 poison to i64", 0, 255},
		{"%6 = trunc i16 255 to i8", 255, 255},
		{"%6 = trunc i16 256 to i8", 0, 255},
		{"%6 = trunc i16 257 to i1", 0, 1},
		{"%6 = trunc i16 1 to i1", 1, 1},
		{"%6 = urem i16 %2, 256; %7 = trunc i16 %6 to i8", 0, 255},
		{"%6 = urem i16 %2, 200; %7 = trunc i16 %6 to i8", 0, 199},
		{"%6 = urem i16 %2, 257; %7 = trunc i16 %6 to i8", 0, 255},
		{"%6 = urem i16 %2, 57; %7 = add i16 %6, 200; %8 = trunc i16 %7 to i8", 0, 255},
		{"%6 = urem i16 %2, 56; %7 = add i16 %6, 200; %8 = trunc i16 %7 to i8", 200, 255},
		{"%6 = select i8 %0, 7, 5", 5, 7},
		{"%6 = select i8 1, 5, 7", 5, 7},
		{"%6 = select i8 %0, 5, poison", 0, 255},
		{"%6 = select i8 poison, 5, 5", 5, 5},
		{"%6 = urem i8 %1, 10; %7 = add i8 %6, 20; %8 = select i8 %0, %7, 25", 20, 29},
		{"%6 = urem i8 %1, 10; %7 = add i8 %6, 20; %8 = select i8 %0, 40, %7", 20, 40},
		{"%6 = select ptr %0, @g, %5", 0, 0},
		{"%6 = offset @g, 8", 0, 0},
		{"%6 = alloca 8", 0, 0},
		{"%6 = select ptr %0, poison, null", 0, 0},
		{"%6 = load ptr @g", 0, 0},
	})
}

// TestSpansOfPairs: the spans of both arguments, and what each operation makes of them.
func TestSpansOfPairs(t *testing.T) {
	type pair struct {
		op       string
		a, b, c  uint64
		d        uint64
		low, top uint64
	}
	for _, p := range []pair{
		{"add", 3, 100, 5, 155, 8, 255},
		{"add", 3, 100, 5, 156, 0, 255},
		{"add nuw", 3, 100, 5, 156, 0, 255},
		{"add", 0, 250, 5, 5, 5, 255},
		{"add", 1, 200, 2, 200, 0, 255},
		{"sub", 9, 12, 2, 8, 1, 10},
		{"sub", 9, 12, 2, 9, 0, 10},
		{"sub", 9, 12, 2, 10, 0, 255},
		{"sub", 0, 0, 0, 0, 0, 0},
		{"sub nuw", 9, 12, 2, 10, 0, 255},
		{"mul", 3, 15, 2, 17, 6, 255},
		{"mul", 3, 16, 2, 16, 0, 255},
		{"mul", 3, 15, 2, 18, 0, 255},
		{"mul", 0, 250, 0, 0, 0, 0},
		{"mul", 2, 250, 1, 1, 2, 250},
		{"and", 3, 100, 5, 60, 0, 60},
		{"and", 3, 40, 5, 60, 0, 40},
		{"or", 3, 7, 2, 4, 3, 7},
		{"or", 3, 8, 5, 6, 5, 15},
		{"or", 3, 4, 2, 15, 3, 15},
		{"or", 1, 1, 2, 16, 2, 31},
		{"or", 0, 0, 0, 0, 0, 0},
		{"or", 0, 0, 1, 1, 1, 1},
		{"or", 100, 127, 90, 120, 100, 127},
		{"or", 100, 128, 90, 120, 100, 255},
		{"xor", 3, 7, 2, 4, 0, 7},
		{"xor", 3, 8, 5, 6, 0, 15},
		{"xor", 100, 128, 90, 120, 0, 255},
		{"xor", 0, 0, 0, 0, 0, 0},
		{"xor", 1, 1, 1, 1, 0, 1},
		{"udiv", 20, 100, 0, 5, 0, 255},
		{"udiv", 20, 100, 1, 5, 4, 100},
		{"udiv", 20, 100, 3, 7, 2, 33},
		{"udiv exact", 20, 100, 3, 30, 0, 33},
		{"udiv", 7, 7, 0, 0, 0, 255},
		{"urem", 20, 100, 0, 0, 0, 255},
		{"urem", 20, 100, 0, 1, 0, 0},
		{"urem", 20, 100, 5, 50, 0, 49},
		{"urem", 20, 100, 5, 101, 0, 100},
		{"urem", 20, 100, 5, 102, 0, 100},
		{"urem", 20, 100, 5, 100, 0, 99},
		{"shl", 1, 2, 1, 1, 0, 255},
		{"ashr", 1, 2, 1, 1, 0, 255},
		{"sdiv", 1, 2, 1, 1, 0, 255},
		{"srem", 1, 2, 1, 1, 0, 255},
		{"lshr", 1, 2, 1, 1, 0, 255},
	} {
		first, next := between(6, p.a, p.b)
		second, last := between(next, p.c, p.d)
		checkSpanCases(t, []spanCase{{fmt.Sprintf("%s%s%%%d = %s i8 %%%d, %%%d", first, second, last, p.op, next-1, last-1), p.low, p.top}})
	}
}

// TestFactsOfEachWidth: at both ends of each width.
func TestFactsOfEachWidth(t *testing.T) {
	for n, w := range widths {
		top, high := allOnes(w), uint64(1)<<(w-1)
		word := func(v uint64) string { return impl.FormatWord(w, v&top) }
		for _, c := range []struct {
			op        string
			x, y      string
			zero, one uint64
			low, high uint64
		}{
			{"and", word(top), word(top), 0, top, 0, top},
			{"or", word(0), word(0), top, 0, 0, 0},
			{"or", "P", word(high), 0, high, high, top},
			{"and", "P", word(high), top - high, 0, 0, high},
			{"xor", "P", word(top), 0, 0, 0, top},
			{"xor", word(top), word(top), top, 0, 0, top},
			{"add", word(top), word(0), 0, top, top, top},
			{"add", word(top), word(1), top, 0, 0, top},
			{"add", word(top), word(top), 1, top - 1, 0, top},
			{"add", "P", word(0), 0, 0, 0, top},
			{"sub", word(0), word(1), 0, top, 0, top},
			{"sub", word(top), word(top), top, 0, 0, 0},
			{"sub", word(top), "P", 0, 0, 0, top},
			{"mul", word(top), word(1), 0, 0, top, top},
			{"mul", word(high), word(2), top, 0, 0, top},
			{"mul", word(0), "P", top, 0, 0, 0},
			{"mul", "P", word(1), 0, 0, 0, top},
			{"udiv", "P", word(top), 0, 0, 0, 1},
			{"udiv", word(top), word(1), 0, 0, top, top},
			{"urem", "P", word(high), top - high + 1, 0, 0, high - 1},
			{"urem", "P", word(1), top, 0, 0, 0},
			{"urem", "P", word(0), 0, 0, 0, top},
			{"shl", word(1), word(uint64(w) - 1), top - high, high, 0, top},
			{"shl", "P", word(uint64(w) - 1), top - high, 0, 0, top},
			{"lshr", word(top), word(uint64(w) - 1), top - 1, 1, 1, 1},
			{"lshr", "P", word(uint64(w) - 1), top - 1, 0, 0, 1},
			{"ashr", word(high), word(uint64(w) - 1), 0, top, 0, top},
			{"ashr", "P", word(0), 0, 0, 0, top},
			{"sdiv", word(1), word(1), 0, 0, 0, top},
			{"srem", word(1), word(1), 0, 0, 0, top},
		} {
			if w == 1 && c.op == "mul" && c.x == word(high) {
				continue // 2 is no word of width 1
			}
			x := strings.ReplaceAll(c.x, "P", fmt.Sprintf("%%%d", n))
			y := strings.ReplaceAll(c.y, "P", fmt.Sprintf("%%%d", n))
			f := factFunc(t, fmt.Sprintf("%%6 = %s i%d %s, %s%s", c.op, w, x, y, endLines))
			checkFacts(t, f)
			bits, spans := impl.KnownBits(f)[6], impl.Spans(f)[6]
			if bits != (impl.Known{Zero: c.zero & top, One: c.one}) || spans != (impl.Span{Low: c.low, High: c.high}) {
				t.Errorf("%s of %s and %s of width %d: %v, %v", c.op, c.x, c.y, w, bits, spans)
			}
		}
	}
}

// TestSumsThatReachTheWidth: both High together make the greatest word, or one more.
func TestSumsThatReachTheWidth(t *testing.T) {
	whole := ^uint64(0)
	checkSpanCases(t, []spanCase{
		{"%6 = and i64 %4, 9223372036854775807; %7 = lshr i64 %4, 1; %8 = add i64 %6, %7", 0, whole - 1},
		{"%6 = and i64 %4, -9223372036854775808; %7 = lshr i64 %4, 1; %8 = add i64 %6, %7", 0, whole},
		{"%6 = and i64 %4, -9223372036854775808; %7 = lshr i64 %4, 1; %8 = add i64 %7, 1; %9 = add i64 %6, %8", 0, whole},
		{"%6 = add i64 -1, 0", whole, whole},
		{"%6 = add i64 -2, 1", whole, whole},
		{"%6 = add i64 -2, 2", 0, whole},
		{"%6 = add i64 -1, -1", 0, whole},
		{"%6 = mul i64 4294967295, 4294967297", whole, whole},
		{"%6 = mul i64 4294967296, 4294967296", 0, whole},
		{"%6 = mul i64 6148914691236517205, 3", whole, whole},
		{"%6 = mul i64 6148914691236517206, 3", 0, whole},
		{"%6 = mul i64 -1, -1", 0, whole},
		{"%6 = mul i64 -1, 1", whole, whole},
		{"%6 = zext i32 %3 to i64; %7 = mul i64 %6, %6", 0, 0xfffffffe00000001},
		{"%6 = zext i32 %3 to i64; %7 = add i64 %6, 2; %8 = mul i64 %6, %7", 0, whole},
		{"%6 = zext i32 %3 to i64; %7 = add i64 %6, 1; %8 = mul i64 %7, %7", 0, whole},
		{"%6 = mul i32 65535, 65537", 1<<32 - 1, 1<<32 - 1},
		{"%6 = mul i32 65536, 65536", 0, 1<<32 - 1},
		{"%6 = add i32 -2, 1", 1<<32 - 1, 1<<32 - 1},
		{"%6 = add i32 -1, 1", 0, 1<<32 - 1},
		{"%6 = mul i1 1, 1", 1, 1},
		{"%6 = add i1 1, 0", 1, 1},
		{"%6 = add i1 1, 1", 0, 1},
		{"%6 = sub i64 0, 1", 0, whole},
		{"%6 = sub i64 -1, -1", 0, 0},
		{"%6 = sub i64 -1, 0", whole, whole},
		{"%6 = and i64 %4, 4095; %7 = sub i64 4095, %6", 0, 4095},
		{"%6 = and i64 %4, 4095; %7 = sub i64 4094, %6", 0, whole},
		{"%6 = and i64 %4, 4095; %7 = sub i64 5000, %6", 905, 5000},
		{"%6 = or i64 %4, -9223372036854775808; %7 = xor i64 %6, 0", 0, whole},
		{"%6 = or i64 %4, -9223372036854775808", 1 << 63, whole},
		{"%6 = udiv i64 -1, -1", 1, 1},
		{"%6 = urem i64 %4, -1", 0, whole - 1},
	})
}
