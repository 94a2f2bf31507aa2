package tests

import (
	"fmt"
	"strconv"
	"strings"
	"testing"

	"loop.example/g00010/impl"
)

// foldCase is a line, behind others that stay as they are, and what one step of folding makes of it:
// another line, or the operand for which it is dropped, or nothing. It holds of all widths from one on.
// %0 and %1 are of the width T, %2 is of width 1, %3 is a pointer; {n} is a word, {top} the greatest one, {high} the least signed one.
type foldCase struct {
	ahead, line, want string
	from              int64
}

// atWidth puts the width and its words into a text.
func atWidth(w int64, text string) string {
	text = strings.ReplaceAll(text, "T", "i"+strconv.FormatInt(w, 10))
	text = strings.ReplaceAll(text, "{top}", impl.FormatWord(w, allOnes(w)))
	text = strings.ReplaceAll(text, "{high}", impl.FormatWord(w, 1<<(w-1)))
	for n := range uint64(64) {
		text = strings.ReplaceAll(text, fmt.Sprintf("{%d}", n), impl.FormatWord(w, n&allOnes(w)))
	}
	return text
}

// typeIn is the type of what a line defines.
func typeIn(line string) string {
	words := strings.Fields(strings.NewReplacer("nuw ", "", "nsw ", "", "exact ", "").Replace(line))
	switch words[0] {
	case "cmp":
		return "i1"
	case "offset":
		return "ptr"
	case "zext", "sext", "trunc":
		return words[len(words)-1]
	}
	return words[1]
}

// foldModule has a function with these lines and one that calls it; a semicolon stands between the lines.
func foldModule(t *testing.T, w int64, result string, lines string) impl.Module {
	t.Helper()
	text := "global @g strong 16 0102030405060708090a0b0c0d0e0f10\nglobal @h strong 16\n"
	text += "func @f strong (T, T, i1, ptr) " + result + " {\n0:\n  " + strings.ReplaceAll(lines, "; ", "\n  ") + "\n}\n"
	text += "func @main strong (T, T, i1) " + result + " {\n0:\n  %3 = call " + result + " @f(%0, %1, %2, @g)\n  return " + result + " %3\n}\n"
	m := moduleOf(t, atWidth(w, text))
	if fault := impl.Verify(m); fault.Code != 0 {
		t.Fatal("the test's module has the fault", fault, "of", lines)
	}
	return m
}

// isOperandText: no name of an operation begins like this.
func isOperandText(text string) bool {
	return strings.ContainsAny(text[:1], "%@-0123456789{") || text == "null" || text == "poison"
}

func (c foldCase) check(t *testing.T, w int64) {
	t.Helper()
	ahead, count := "", 4
	for _, line := range strings.Split(c.ahead, "; ") {
		if line != "" {
			ahead += fmt.Sprintf("%%%d = %s; ", count, line)
			count++
		}
	}
	result := typeIn(atWidth(w, c.line))
	own := fmt.Sprintf("%%%d = %s; ", count, c.line)
	m := foldModule(t, w, result, fmt.Sprintf("%s%sreturn %s %%%d", ahead, own, result, count))
	want := m
	switch {
	case c.want == "":
	case isOperandText(c.want):
		want = foldModule(t, w, result, fmt.Sprintf("%sreturn %s %s", ahead, result, c.want))
	default:
		want = foldModule(t, w, result, fmt.Sprintf("%s%%%d = %s; return %s %%%d", ahead, count, c.want, result, count))
	}
	got := impl.FoldOnce(m.Funcs[0])
	if got.Done != (c.want != "") || !alike(got.Func, want.Funcs[0]) {
		t.Errorf("%s%s of width %d gives %v\n%s", ahead, c.line, w, got.Done, textOf(got.Func))
	}
	checkFold(t, m.Funcs[0])
	checkStandsFor(t, m, got.Func, w)
	checkStandsFor(t, m, impl.Fold(m.Funcs[0]), w)
}

// checkStandsFor runs a module of foldModule as it is, and with another function in the place of the first.
func checkStandsFor(t *testing.T, m impl.Module, f impl.Func, w int64) {
	t.Helper()
	other := impl.Module{Globals: m.Globals, Funcs: []impl.Func{f, m.Funcs[1]}}
	if fault := impl.Verify(other); fault.Code != 0 {
		t.Fatalf("there is the fault %v in\n%s", fault, textOf(f))
	}
	top := allOnes(w)
	for _, x := range []uint64{0, 1 & top, 5 & top, top / 2, top/2 + 1, top} {
		for _, y := range []uint64{0, 1 & top, 100 & top, top} {
			args := []uint64{x, y, (x + y) & 1}
			checkRefines(t, drawn{m, "main", args, enough}, other)
		}
	}
}

func checkFoldCases(t *testing.T, list []foldCase) {
	t.Helper()
	for _, c := range list {
		for _, w := range widths {
			if w >= c.from {
				c.check(t, w)
			}
		}
	}
}

func TestFoldWords(t *testing.T) {
	checkFoldCases(t, []foldCase{
		{"", "add T {top}, {1}", "{0}", 1},
		{"", "add nuw T {top}, {1}", "poison", 1},
		{"", "add nsw T {top}, {1}", "{0}", 8},
		{"", "add nsw T {high}, {high}", "poison", 1},
		{"", "sub T {0}, {1}", "{top}", 1},
		{"", "sub nuw T {0}, {1}", "poison", 1},
		{"", "sub nuw nsw T {5}, {2}", "{3}", 8},
		{"", "mul T {5}, {5}", "{25}", 8},
		{"", "mul nsw T {high}, {top}", "poison", 1},
		{"", "mul T {high}, {top}", "{high}", 1},
		{"", "udiv T {7}, {2}", "{3}", 8},
		{"", "udiv exact T {7}, {2}", "poison", 8},
		{"", "udiv exact T {6}, {2}", "{3}", 8},
		{"", "udiv T {7}, {0}", "", 8},
		{"", "udiv T {0}, {0}", "", 1},
		{"", "sdiv T {high}, {top}", "", 1},
		{"", "sdiv exact T {high}, {top}", "", 1},
		{"", "sdiv T {top}, {0}", "", 1},
		{"", "sdiv T {top}, {2}", "{0}", 8},
		{"", "sdiv exact T {top}, {2}", "poison", 8},
		{"", "sdiv T {0}, {1}", "{0}", 1},
		{"", "urem T {7}, {4}", "{3}", 8},
		{"", "urem T {7}, {0}", "", 8},
		{"", "srem T {top}, {2}", "{top}", 8},
		{"", "srem T {high}, {top}", "", 1},
		{"", "srem T {1}, {0}", "", 1},
		{"", "lshr T {top}, {0}", "{top}", 1},
		{"", "lshr exact T {3}, {1}", "poison", 8},
		{"", "ashr T {top}, {1}", "{top}", 8},
		{"", "ashr T {high}, {top}", "poison", 1},
		{"", "and T {top}, {0}", "{0}", 1},
		{"", "or T {1}, {1}", "{1}", 1},
		{"", "xor T {top}, {top}", "{0}", 1},
		{"", "cmp ult T {0}, {1}", "1", 1},
		{"", "cmp slt T {0}, {top}", "0", 1},
		{"", "cmp sge T {0}, {high}", "1", 1},
		{"", "cmp ne T {1}, {1}", "0", 1},
		{"", "select T 1, %0, %1", "%0", 1},
		{"", "select T 0, %0, %1", "%1", 1},
		{"", "select T 1, {0}, %1", "{0}", 1},
		{"", "select T 0, {0}, poison", "poison", 1},
		{"", "select ptr 1, @h, null", "@h", 1},
		{"", "select ptr 0, @h, null", "null", 1},
		{"", "select T %2, {0}, %1", "", 1},
	})
	for _, c := range []foldCase{
		{"", "shl i8 1, 7", "-128", 0},
		{"", "shl nsw i8 1, 7", "poison", 0},
		{"", "shl i8 1, 8", "poison", 0},
		{"", "zext i8 -1 to i16", "255", 0},
		{"", "sext i8 -1 to i16", "-1", 0},
		{"", "sext i1 1 to i64", "-1", 0},
		{"", "zext i1 1 to i64", "1", 0},
		{"", "trunc i64 511 to i8", "-1", 0},
		{"", "trunc i64 510 to i1", "0", 0},
		{"", "cmp ugt i8 -1, 1", "1", 0},
		{"", "cmp sgt i8 -1, 1", "0", 0},
		// What is none of words alone, though nothing hangs on anything.
		{"", "cmp eq ptr null, null", "", 0},
		{"", "cmp ne ptr @g, @h", "", 0},
		{"", "cmp eq ptr @g, @g", "", 0},
		{"", "offset null, 1", "", 0},
		{"", "offset @g, 4", "", 0},
	} {
		c.check(t, 32)
	}
}

func TestFoldPoison(t *testing.T) {
	t.Parallel()
	var list []foldCase
	for _, op := range []string{"add", "sub", "mul", "shl", "lshr", "ashr", "and", "or", "xor"} {
		for _, other := range []string{"%0", "{0}", "{1}", "{top}", "poison"} {
			list = append(list, foldCase{"", op + " T poison, " + other, "poison", 1}, foldCase{"", op + " T " + other + ", poison", "poison", 1})
		}
	}
	for _, op := range []string{"udiv", "sdiv", "urem", "srem"} {
		for _, other := range []string{"%0", "{0}", "{1}", "{top}", "poison"} {
			list = append(list, foldCase{"", op + " T poison, " + other, "poison", 1})
		}
		list = append(list, foldCase{"", op + " T %0, poison", "", 1}, foldCase{"", op + " T {1}, poison", "", 1})
	}
	for _, pred := range []string{"eq", "ne", "ult", "ule", "ugt", "uge", "slt", "sle", "sgt", "sge"} {
		for _, other := range []string{"%0", "{0}", "{1}", "poison"} {
			list = append(list, foldCase{"", "cmp " + pred + " T poison, " + other, "poison", 1}, foldCase{"", "cmp " + pred + " T " + other + ", poison", "poison", 1})
		}
	}
	list = append(list, []foldCase{
		{"", "add nuw nsw T poison, %0", "poison", 1},
		{"", "udiv exact T poison, %0", "poison", 1},
		{"", "cmp eq ptr poison, %3", "poison", 1},
		{"", "cmp ne ptr null, poison", "poison", 1},
		{"", "cmp ne ptr poison, null", "poison", 1},
		{"", "cmp ne ptr @g, poison", "poison", 1},
		{"", "offset poison, 0", "poison", 1},
		{"", "offset poison, 5", "poison", 1},
		{"", "offset %3, poison", "poison", 1},
		{"", "offset null, poison", "poison", 1},
		{"", "offset @g, poison", "poison", 1},
		{"", "select T poison, %0, %1", "poison", 1},
		{"", "select T poison, %0, %0", "poison", 1},
		{"", "select T poison, {1}, {0}", "poison", 1},
		{"", "select ptr poison, %3, @g", "poison", 1},
		{"", "select T %2, poison, %0", "", 1},
		{"", "select T %2, %0, poison", "", 1},
		{"", "select T %2, poison, poison", "poison", 1},
		{"", "select ptr %2, poison, null", "", 1},
		{"", "zext i1 poison to i64", "poison", 1},
		{"", "sext i1 poison to i64", "poison", 1},
		{"", "trunc i64 poison to i1", "poison", 1},
	}...)
	checkFoldCases(t, list)
}

// TestFoldOrder: a word comes behind what is none, and null behind other pointers.
func TestFoldOrder(t *testing.T) {
	t.Parallel()
	list := []foldCase{
		{"", "add nuw nsw T {1}, %0", "add nuw nsw T %0, {1}", 1},
		{"", "mul nuw nsw T {1}, %0", "mul nuw nsw T %0, {1}", 1},
		{"", "mul nsw T {0}, %0", "mul nsw T %0, {0}", 1},
		{"", "and T {top}, %0", "and T %0, {top}", 1},
		{"", "or T {0}, %0", "or T %0, {0}", 1},
		{"", "xor T {1}, %0", "xor T %0, {1}", 1},
		{"", "add T %0, {1}", "", 1},
		{"", "add T %0, %1", "", 1},
		{"", "add T %1, %0", "", 1},
		{"", "sub T {1}, %0", "", 1},
		{"", "sub nuw T {0}, %0", "", 1},
		{"", "udiv T {1}, %0", "", 1},
		{"", "sdiv T {1}, %0", "", 1},
		{"", "urem T {1}, %0", "", 1},
		{"", "srem T {1}, %0", "", 1},
		{"", "shl T {1}, %0", "", 1},
		{"", "lshr T {0}, %0", "", 1},
		{"", "ashr T {top}, %0", "", 1},
		{"", "cmp eq ptr null, %3", "cmp eq ptr %3, null", 1},
		{"", "cmp ne ptr null, @g", "cmp ne ptr @g, null", 1},
		{"", "cmp eq ptr %3, null", "", 1},
		{"", "cmp ne ptr @g, null", "", 1},
		{"", "cmp ne ptr @g, %3", "", 1},
		{"", "cmp ne ptr null, null", "", 1},
		{"", "offset null, %4", "", 64},
		{"", "select T %2, {1}, %0", "", 1},
	}
	swapped := map[string]string{"eq": "eq", "ne": "ne", "ult": "ugt", "ule": "uge", "ugt": "ult", "uge": "ule", "slt": "sgt", "sle": "sge", "sgt": "slt", "sge": "sle"}
	for pred, other := range swapped {
		for _, word := range []string{"{0}", "{1}", "{top}", "{high}"} {
			list = append(list, foldCase{"", "cmp " + pred + " T " + word + ", %0", "cmp " + other + " T %0, " + word, 1})
		}
		list = append(list, foldCase{"", "cmp " + pred + " T %0, {1}", "", 1}, foldCase{"", "cmp " + pred + " T %1, %0", "", 1})
	}
	for at, c := range list {
		list[at].line = strings.Replace(c.line, "%4", "%0", 1)
	}
	checkFoldCases(t, list)
}

func TestFoldToTheFirst(t *testing.T) {
	checkFoldCases(t, []foldCase{
		{"", "add nuw nsw T %0, {0}", "%0", 1},
		{"", "sub nuw nsw T %0, {0}", "%0", 1},
		{"", "or T %0, {0}", "%0", 1},
		{"", "xor T %0, {0}", "%0", 1},
		{"", "shl nuw nsw T %0, {0}", "%0", 1},
		{"", "lshr exact T %0, {0}", "%0", 1},
		{"", "ashr exact T %0, {0}", "%0", 1},
		{"", "mul nuw nsw T %0, {1}", "%0", 1},
		{"", "udiv exact T %0, {1}", "%0", 1},
		{"", "sdiv exact T %0, {1}", "%0", 8},
		{"", "sdiv T %0, {1}", "%0", 8},
		{"", "and T %0, {top}", "%0", 1},
		{"", "and T %0, %0", "%0", 1},
		{"", "or T %0, %0", "%0", 1},
		{"", "offset %3, 0", "%3", 1},
		{"", "offset @g, 0", "@g", 1},
		{"", "offset null, 0", "null", 1},
		{"", "shl T %0, {1}", "", 1},
		{"", "lshr T %0, {1}", "", 1},
		{"", "ashr T %0, {top}", "", 1},
		{"", "sdiv T %0, {0}", "", 1},
		{"", "udiv T %0, {0}", "", 1},
		{"", "udiv T %0, %0", "", 1},
		{"", "sdiv T %0, %0", "", 1},
		{"", "srem T %0, {1}", "", 1},
		{"", "srem T %0, %0", "", 1},
		{"", "sdiv T %0, {top}", "", 8},
		{"", "sdiv T %0, {2}", "", 8},
		{"", "or T %0, {top}", "", 1},
		{"", "xor T %0, {top}", "", 1},
		{"", "and T %0, {1}", "", 8},
		{"", "and T %0, {high}", "", 8},
		{"", "add T %0, %0", "", 1},
		{"", "mul T %0, %0", "", 1},
		{"", "and T %0, %1", "", 1},
		{"", "or T %0, %1", "", 1},
		{"", "offset %3, 1", "", 1},
		{"", "add T %0, {1}", "", 1},
		{"", "shl T %0, %0", "", 1},
	})
	foldCase{"", "sdiv i1 %0, 1", "", 0}.check(t, 1)
	foldCase{"", "sdiv exact i1 %0, 1", "", 0}.check(t, 1)
	foldCase{"", "offset %3, %0", "", 0}.check(t, 64)
	// The word 255 is the greatest of width 8 alone.
	foldCase{"", "and i16 %0, 255", "", 0}.check(t, 16)
	foldCase{"", "and i64 %0, 4294967295", "", 0}.check(t, 64)
}

func TestFoldToZero(t *testing.T) {
	checkFoldCases(t, []foldCase{
		{"", "mul nuw nsw T %0, {0}", "{0}", 1},
		{"", "and T %0, {0}", "{0}", 1},
		{"", "sub nuw nsw T %0, %0", "{0}", 1},
		{"", "xor T %0, %0", "{0}", 1},
		{"", "urem T %0, {1}", "{0}", 1},
		{"", "urem T %0, {0}", "", 1},
		{"", "urem T %0, %0", "", 1},
		{"", "sub T %0, %1", "", 1},
		{"", "xor T %0, %1", "", 1},
		{"", "sub T {0}, %0", "", 1},
		{"", "shl T {0}, %0", "", 1},
		{"", "urem T %0, {top}", "", 8},
		{"", "urem T %0, {3}", "", 8},
		{"", "mul T %0, {3}", "", 8},
	})
}

// TestFoldPowers: 2^k for each k, and the words beside it.
func TestFoldPowers(t *testing.T) {
	t.Parallel()
	for _, w := range widths {
		word := func(v uint64) string { return impl.FormatWord(w, v&allOnes(w)) }
		for k := int64(1); k < w; k++ {
			power, places := word(1<<k), word(uint64(k))
			keeps, loses := " nuw nsw", " nsw"
			if k == w-1 {
				keeps, loses = " nuw", ""
			}
			for _, c := range []foldCase{
				{"", "mul T %0, " + power, "shl T %0, " + places, 0},
				{"", "mul nuw T %0, " + power, "shl nuw T %0, " + places, 0},
				{"", "mul nsw T %0, " + power, "shl" + loses + " T %0, " + places, 0},
				{"", "mul nuw nsw T %0, " + power, "shl" + keeps + " T %0, " + places, 0},
				{"", "udiv T %0, " + power, "lshr T %0, " + places, 0},
				{"", "udiv exact T %0, " + power, "lshr exact T %0, " + places, 0},
				{"", "urem T %0, " + power, "and T %0, " + word(1<<k-1), 0},
				{"", "sdiv T %0, " + power, "", 0},
				{"", "srem T %0, " + power, "", 0},
				{"", "shl T %0, " + power, "", 0},
				{"", "and T %0, " + power, "", 0},
				{"", "udiv T " + power + ", %0", "", 0},
				{"", "urem T " + power + ", %0", "", 0},
			} {
				c.check(t, w)
			}
			for _, v := range []uint64{1<<k + 1, 1<<k - 1} {
				if v&(v-1) == 0 || v > allOnes(w) {
					continue
				}
				for _, op := range []string{"mul", "udiv", "urem"} {
					foldCase{"", op + " T %0, " + word(v), "", 0}.check(t, w)
				}
			}
		}
	}
	checkFoldCases(t, []foldCase{
		{"", "mul T %0, {top}", "", 8},
		{"", "udiv T %0, {top}", "", 8},
		{"", "urem T %0, {top}", "", 8},
		{"", "udiv T %0, {0}", "", 1},
	})
}

func TestFoldDifferences(t *testing.T) {
	checkFoldCases(t, []foldCase{
		{"", "sub T %0, {1}", "add T %0, {top}", 1},
		{"", "sub nuw nsw T %0, {1}", "add T %0, {top}", 1},
		{"", "sub nsw T %0, {high}", "add T %0, {high}", 1},
		{"", "sub nuw T %0, {top}", "add T %0, {1}", 1},
		{"", "sub T %0, {0}", "%0", 1},
		{"", "sub T {5}, %0", "", 8},
		{"", "sub T %1, %0", "", 1},
		{"sub T {5}, %0", "sub T %4, {2}", "add T %4, -2", 8},
	})
	foldCase{"", "sub nsw i8 %0, 100", "add i8 %0, -100", 0}.check(t, 8)
	foldCase{"", "sub nsw i8 %0, -100", "add i8 %0, 100", 0}.check(t, 8)
}

func TestFoldChains(t *testing.T) {
	checkFoldCases(t, []foldCase{
		{"add T %0, {5}", "add T %4, {7}", "add T %0, {12}", 8},
		{"add nuw nsw T %0, {5}", "add T %4, {7}", "add T %0, {12}", 8},
		{"add T %0, {5}", "add nuw nsw T %4, {7}", "add T %0, {12}", 8},
		{"add nsw T %0, {5}", "add nsw T %4, {7}", "add T %0, {12}", 8},
		{"add T %0, {top}", "add T %4, {top}", "add T %0, -2", 8},
		{"add T %0, {high}", "add T %4, {high}", "add T %0, {0}", 1},
		{"and T %0, {6}", "and T %4, {3}", "and T %0, {2}", 8},
		{"or T %0, {6}", "or T %4, {3}", "or T %0, {7}", 8},
		{"xor T %0, {6}", "xor T %4, {3}", "xor T %0, {5}", 8},
		{"xor T %0, {1}", "xor T %4, {1}", "xor T %0, {0}", 1},
		{"or T %0, {1}", "or T %4, {1}", "or T %0, {1}", 1},
		{"offset %3, 4", "offset %4, 5", "offset %3, 9", 1},
		{"offset @g, 4", "offset %4, -5", "offset @g, -1", 1},
		{"offset null, -4", "offset %4, 4", "offset null, 0", 1},
		{"offset %3, 9223372036854775806", "offset %4, 1", "offset %3, 9223372036854775807", 1},
		{"offset %3, 9223372036854775807", "offset %4, 1", "", 1},
		{"offset %3, 1", "offset %4, 9223372036854775807", "", 1},
		{"offset %3, -9223372036854775807", "offset %4, -1", "offset %3, -9223372036854775808", 1},
		{"offset %3, -9223372036854775808", "offset %4, -1", "", 1},
		{"offset %3, -9223372036854775808", "offset %4, -9223372036854775808", "", 1},
		{"offset %3, -9223372036854775808", "offset %4, 9223372036854775807", "offset %3, -1", 1},
		{"add T %0, {5}", "xor T %4, {7}", "", 8},
		{"or T %0, {5}", "and T %4, {7}", "", 8},
		{"xor T %0, {5}", "or T %4, {7}", "", 8},
		{"and T %0, {5}", "add T %4, {7}", "", 8},
		{"mul T %0, {5}", "mul T %4, {7}", "", 8},
		{"shl T %0, {1}", "shl T %4, {1}", "", 8},
		{"lshr T %0, {1}", "lshr T %4, {1}", "", 8},
		{"add T %0, %1", "add T %4, {1}", "", 1},
		{"add T %0, {1}", "add T %4, %1", "", 1},
		{"add T %0, {1}", "add T %1, %4", "", 1},
		{"add T %0, {1}", "add T %4, %4", "", 1},
		{"add T %0, {1}", "sub T %1, %4", "", 1},
		// The words are one only behind each other: the one ahead is turned first.
		{"add T %0, {1}", "add T {1}, %4", "add T %4, {1}", 1},
		{"add T %0, {7}", "sub T %4, {5}", "add T %4, -5", 8},
		{"add T %0, {3}; add T %1, {4}", "add T %5, {5}", "add T %1, {9}", 8},
		{"add T %0, {3}; add T %1, {4}", "add T %4, {5}", "add T %0, {8}", 8},
	})
	// Of an offset that is no word there is no sum.
	foldCase{"offset %3, %0", "offset %4, 4", "", 0}.check(t, 64)
	foldCase{"offset %3, 4", "offset %4, %0", "", 0}.check(t, 64)
}

func TestFoldSelects(t *testing.T) {
	checkFoldCases(t, []foldCase{
		{"", "select T %2, %0, %0", "%0", 1},
		{"", "select T %2, {1}, {1}", "{1}", 1},
		{"", "select T %2, poison, poison", "poison", 1},
		{"", "select ptr %2, null, null", "null", 1},
		{"", "select ptr %2, @h, @h", "@h", 1},
		{"", "select ptr %2, @h, @g", "", 1},
		{"", "select ptr %2, %3, %3", "%3", 1},
		{"", "select T %2, %0, %1", "", 1},
		{"", "select T %2, {1}, {0}", "", 8},
		{"", "select T %2, {0}, {1}", "", 8},
		{"", "select i1 %2, 1, 0", "%2", 1},
		{"", "select i1 %2, 0, 1", "xor i1 %2, 1", 1},
		{"", "select i1 %2, 1, 1", "1", 1},
		{"", "select i1 %2, 0, 0", "0", 1},
		{"", "select i1 %2, 1, %2", "", 1},
		{"", "select i1 %2, %2, 0", "", 1},
		{"", "select i1 %2, 0, poison", "", 1},
		{"", "select i1 1, 1, 0", "1", 1},
		{"", "select i1 0, 0, 1", "1", 1},
	})
}

func TestFoldCompares(t *testing.T) {
	t.Parallel()
	var list []foldCase
	for pred, want := range map[string]string{"eq": "1", "ne": "0", "ult": "0", "ule": "1", "ugt": "0", "uge": "1", "slt": "0", "sle": "1", "sgt": "0", "sge": "1"} {
		withZero := map[string]string{"ult": "0", "uge": "1"}[pred]
		list = append(list,
			foldCase{"", "cmp " + pred + " T %0, %0", want, 1},
			foldCase{"", "cmp " + pred + " T %1, %1", want, 1},
			foldCase{"", "cmp " + pred + " T %0, %1", "", 1},
			foldCase{"", "cmp " + pred + " T %0, {0}", withZero, 1},
			foldCase{"", "cmp " + pred + " T %0, {1}", "", 1},
			foldCase{"", "cmp " + pred + " T %0, {top}", "", 1},
			foldCase{"", "cmp " + pred + " T %0, {high}", "", 1})
	}
	list = append(list,
		foldCase{"", "cmp eq ptr %3, %3", "1", 1},
		foldCase{"", "cmp ne ptr %3, %3", "0", 1},
		foldCase{"", "cmp eq ptr @g, @g", "", 1},
		foldCase{"", "cmp ne ptr null, null", "", 1},
		foldCase{"", "cmp ne ptr %3, null", "", 1})
	checkFoldCases(t, list)
}

// TestFoldCasts: each cast of each cast, of all types that there are.
func TestFoldCasts(t *testing.T) {
	ops := []string{"zext", "sext", "trunc"}
	fits := func(op string, from, to int64) bool { return op == "trunc" && from > to || op != "trunc" && from < to }
	count := 0
	for _, from := range widths {
		for _, mid := range widths {
			for _, to := range widths {
				for _, first := range ops {
					for _, then := range ops {
						if !fits(first, from, mid) || !fits(then, mid, to) {
							continue
						}
						count++
						foldCase{fmt.Sprintf("%s T %%0 to i%d", first, mid), fmt.Sprintf("%s i%d %%4 to i%d", then, mid, to), wantCasts(first, then, from, to), 0}.check(t, from)
					}
				}
			}
		}
	}
	if count != 170 {
		t.Error(count, "casts of casts")
	}
}

func wantCasts(first, then string, from, to int64) string {
	line := func(op string) string { return fmt.Sprintf("%s T %%0 to i%d", op, to) }
	switch {
	case first == "trunc" || then == "zext" && first == "sext":
		return ""
	case then != "trunc":
		return line(first)
	case to == from:
		return "%0"
	case to < from:
		return line("trunc")
	}
	return line(first)
}
