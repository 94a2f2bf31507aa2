package tests

import (
	"fmt"
	"slices"
	"strings"
	"testing"

	"loop.example/g00010/impl"
)

// blocksOf is a function of a byte, two numbers and a bit, with these lines, a semicolon between.
func blocksOf(t *testing.T, lines string) impl.Func {
	t.Helper()
	text := "func @f strong (i8, i64, i64, i1) i64 {\n"
	for _, line := range strings.Split(lines, "; ") {
		if !strings.HasSuffix(line, ":") {
			line = "  " + line
		}
		text += line + "\n"
	}
	m := moduleOf(t, text+"}\n")
	if fault := impl.Verify(m); fault.Code != 0 {
		t.Fatal(lines, "has the fault", fault)
	}
	return m.Funcs[0]
}

// stepCase is a function and what one step makes of it, or, if whole, all of them.
type stepCase struct {
	name, lines, want string
	whole             bool
}

func checkSteps(t *testing.T, list []stepCase) {
	t.Helper()
	for _, c := range list {
		f, want := blocksOf(t, c.lines), blocksOf(t, c.want)
		checkFold(t, f)
		once := impl.FoldOnce(f)
		got := once.Func
		if c.whole {
			got = impl.Fold(f)
		}
		if !alike(got, want) || once.Done != (c.lines != c.want) {
			t.Errorf("%s gives %v\n%snot\n%s", c.name, once.Done, textOf(got), textOf(want))
		}
		m, other := ofFuncs(f), ofFuncs(got)
		for n := range uint64(20) {
			args := []uint64{n % 3 * 127, n, n*n - 7, n & 1}
			checkRefines(t, drawn{m, "f", args, enough}, other)
		}
	}
}

// TestFoldFirstRule: where two rules apply at one place it is the first of them that changes it.
func TestFoldFirstRule(t *testing.T) {
	checkFoldCases(t, []foldCase{
		{"", "mul T {2}, {4}", "{8}", 8},               // 1, 6
		{"", "add nuw T {top}, {1}", "poison", 1},      // 1
		{"", "sub T {9}, {4}", "{5}", 8},               // 1, 7
		{"", "sub T {5}, {0}", "{5}", 8},               // 1, 4
		{"", "cmp uge T {0}, {0}", "1", 1},             // 1, 10
		{"", "select T 1, %0, %0", "%0", 1},            // 1, 9
		{"", "select i1 0, 0, 1", "1", 1},              // 1, 9
		{"", "urem T {5}, {1}", "{0}", 8},              // 1, 5
		{"", "and T poison, {0}", "poison", 1},         // 2, 5
		{"", "and T {0}, poison", "poison", 1},         // 2, 3
		{"", "mul T poison, {2}", "poison", 8},         // 2, 6
		{"", "mul T {2}, poison", "poison", 8},         // 2, 3
		{"", "urem T poison, {1}", "poison", 1},        // 2, 5
		{"", "udiv T poison, {1}", "poison", 1},        // 2, 4
		{"", "sub T poison, {1}", "poison", 1},         // 2, 7
		{"", "add T poison, {0}", "poison", 1},         // 2, 4
		{"", "select T poison, {1}, {1}", "poison", 1}, // 2, 9
		{"", "cmp uge T poison, {0}", "poison", 1},     // 2, 10
		{"", "cmp ult T {0}, poison", "poison", 1},     // 2, 3
		{"", "cmp eq ptr null, poison", "poison", 1},   // 2, 3
		{"", "offset poison, 0", "poison", 1},          // 2, 4
		{"", "cmp ult T {0}, %0", "cmp ugt T %0, {0}", 1},
		{"", "cmp ugt T {0}, %0", "cmp ult T %0, {0}", 1}, // 3, and 10 behind it
		{"", "mul T {1}, %0", "mul T %0, {1}", 1},         // 3, and 4 behind it
		{"add T %0, {3}", "add T %4, {0}", "%4", 8},       // 4, 8
		{"and T %0, {3}", "and T %4, {top}", "%4", 8},     // 4, 8
		{"and T %0, {3}", "and T %4, {0}", "{0}", 8},      // 5, 8
		{"or T %0, {3}", "or T %4, {0}", "%4", 8},         // 4, 8
		{"xor T %0, {3}", "xor T %4, {0}", "%4", 8},       // 4, 8
		{"offset %3, 3", "offset %4, 0", "%4", 1},         // 4, 8
		{"", "sub T %0, {0}", "%0", 1},                    // 4, 7
		{"", "udiv T %0, {1}", "%0", 1},                   // 4
		{"", "select i1 %2, 1, 1", "1", 1},                // 9: is it, not its first
		{"zext i1 %2 to i16", "zext i16 %4 to i64", "zext i1 %2 to i64", 1},
	})
}

// TestFoldFirstPlace: of the places to which rules apply it is the first, by blocks and in them, whatever the rule.
func TestFoldFirstPlace(t *testing.T) {
	checkSteps(t, []stepCase{
		{"two places in a block", "0:; %4 = add i64 7, %1; %5 = add i64 1, 2; return i64 %5", "0:; %4 = add i64 %1, 7; %5 = add i64 1, 2; return i64 %5", false},
		{"two places, turned", "0:; %4 = add i64 1, 2; %5 = add i64 7, %1; return i64 %5", "0:; %4 = add i64 7, %1; return i64 %4", false},
		{"twice the same", "0:; %4 = or i64 %1, %1; %5 = or i64 %2, %2; return i64 %4", "0:; %4 = or i64 %2, %2; return i64 %1", false},
		{"two blocks", "0:; jump 1; 1:; %4 = xor i64 %1, %1; jump 2; 2:; %5 = xor i64 1, 2; return i64 %5", "0:; jump 1; 1:; jump 2; 2:; %4 = xor i64 1, 2; return i64 %4", false},
		{"a block ahead that comes later", "0:; jump 2; 1:; %4 = xor i64 1, 2; return i64 %4; 2:; %5 = xor i64 %1, %1; jump 1", "0:; jump 2; 1:; return i64 3; 2:; %4 = xor i64 %1, %1; jump 1", false},
		{"a block that can't be come to", "0:; jump 2; 1:; %4 = xor i64 1, 2; return i64 %4; 2:; %5 = xor i64 1, %1; return i64 %5", "0:; jump 2; 1:; return i64 3; 2:; %4 = xor i64 1, %1; return i64 %4", false},
		{"what is made further on in the list", "0:; jump 2; 1:; %4 = add i64 %5, 2; return i64 %4; 2:; %5 = add i64 %1, 5; jump 1", "0:; jump 2; 1:; %4 = add i64 %1, 7; return i64 %4; 2:; %5 = add i64 %1, 5; jump 1", false},
		{"of two words further on", "0:; jump 2; 1:; %4 = add i64 %5, 2; return i64 %4; 2:; %5 = add i64 4, 5; jump 1", "0:; jump 2; 1:; %4 = add i64 4, 7; return i64 %4; 2:; %5 = add i64 4, 5; jump 1", false},
		{"of a word ahead, further on", "0:; jump 2; 1:; %4 = add i64 %5, 2; return i64 %4; 2:; %5 = add i64 4, %1; jump 1", "0:; jump 2; 1:; %4 = add i64 %5, 2; return i64 %4; 2:; %5 = add i64 %1, 4; jump 1", false},
		{"of a poison further on", "0:; jump 2; 1:; %4 = add i64 %5, 2; return i64 %4; 2:; %5 = add i64 poison, 5; jump 1", "0:; jump 2; 1:; %4 = add i64 poison, 7; return i64 %4; 2:; %5 = add i64 poison, 5; jump 1", false},
		{"a cast of a cast further on", "0:; jump 2; 1:; %4 = trunc i64 %6 to i8; %5 = zext i8 %4 to i64; return i64 %5; 2:; %6 = zext i8 7 to i64; jump 1", "0:; jump 2; 1:; %4 = zext i8 7 to i64; return i64 %4; 2:; %5 = zext i8 7 to i64; jump 1", false},
		{"nothing", "0:; %4 = add i64 %1, %2; return i64 %4", "0:; %4 = add i64 %1, %2; return i64 %4", false},
		{"all", "0:; %4 = add i64 7, %1; %5 = add i64 1, 2; %6 = mul i64 %4, %5; return i64 %6", "0:; %4 = add i64 %1, 7; %5 = mul i64 %4, 3; return i64 %5", true},
	})
}

// TestFoldNumbers: values are numbered anew wherever they are used, and what is no value stays.
func TestFoldNumbers(t *testing.T) {
	const loop = "0:; %4 = xor i64 %1, %2; %5 = or i64 %4, %4; jump 1; " +
		"1:; %6 = phi i64 [%5, 0], [%9, 2]; %7 = phi i64 [%4, 0], [%6, 2]; %8 = cmp ult i64 %6, %5; branch %8, 2, 3; " +
		"2:; %9 = add i64 %6, %5; print %7; jump 1; " +
		"3:; %10 = phi i64 [%5, 1], [%11, 4]; print %5; return i64 %10; " +
		"4:; %11 = add i64 %5, %11; print %12; jump 3; " +
		"5:; %12 = mul i64 %5, %5; jump 5"
	const folded = "0:; %4 = xor i64 %1, %2; jump 1; " +
		"1:; %5 = phi i64 [%4, 0], [%8, 2]; %6 = phi i64 [%4, 0], [%5, 2]; %7 = cmp ult i64 %5, %4; branch %7, 2, 3; " +
		"2:; %8 = add i64 %5, %4; print %6; jump 1; " +
		"3:; %9 = phi i64 [%4, 1], [%10, 4]; print %4; return i64 %9; " +
		"4:; %10 = add i64 %4, %10; print %11; jump 3; " +
		"5:; %11 = mul i64 %4, %4; jump 5"
	checkSteps(t, []stepCase{
		{"a value ahead of a loop", loop, folded, true},
		{"for a word", strings.Replace(loop, "or i64 %4, %4", "or i64 4, 5", 1), strings.NewReplacer("[%4, 0], [%8", "[5, 0], [%8", "%5, %4", "%5, 5", "[%4, 1]", "[5, 1]", "print %4", "print 5", "add i64 %4, %10", "add i64 5, %10", "mul i64 %4, %4", "mul i64 5, 5").Replace(folded), false},
		{"for poison", strings.Replace(loop, "or i64 %4, %4", "or i64 4, poison", 1), strings.NewReplacer("[%4, 0], [%8", "[poison, 0], [%8", "%5, %4", "%5, poison", "[%4, 1]", "[poison, 1]", "print %4", "print poison", "add i64 %4, %10", "add i64 poison, %10", "mul i64 %4, %4", "mul i64 poison, poison").Replace(folded), false},
		{"for a parameter", strings.Replace(loop, "or i64 %4, %4", "or i64 %2, %2", 1), strings.NewReplacer("[%4, 0], [%8", "[%2, 0], [%8", "%5, %4", "%5, %2", "[%4, 1]", "[%2, 1]", "print %4", "print %2", "add i64 %4, %10", "add i64 %2, %10", "mul i64 %4, %4", "mul i64 %2, %2").Replace(folded), false},
		{"a value behind all its uses", "0:; jump 2; 1:; %4 = add i64 %6, %6; %5 = xor i64 %7, %6; return i64 %4; 2:; %6 = mul i64 %1, 1; %7 = mul i64 %2, %6; jump 1", "0:; jump 2; 1:; %4 = add i64 %1, %1; %5 = xor i64 %6, %1; return i64 %4; 2:; %6 = mul i64 %2, %1; jump 1", false},
		{"all arguments of one", "0:; %4 = or i64 %1, %1; %5 = mul i64 %4, %4; %6 = select i64 %3, %4, %5; switch i64 %4, 1, 0: 1, 5: 1; 1:; %7 = phi i64 [%4, 0]; return i64 %4", "0:; %4 = mul i64 %1, %1; %5 = select i64 %3, %1, %4; switch i64 %1, 1, 0: 1, 5: 1; 1:; %6 = phi i64 [%1, 0]; return i64 %1", true},
		{"a call, a store and a load", "0:; %4 = alloca 8; %5 = or i64 %1, 0; store i64 %5, %4; %6 = load i64 %4; %7 = call i64 @f(%0, %5, %6, %3); return i64 %7", "0:; %4 = alloca 8; store i64 %1, %4; %5 = load i64 %4; %6 = call i64 @f(%0, %1, %5, %3); return i64 %6", false},
	})
}

// TestFoldWhereNoRunComes: in blocks that can't be come to a value may be dropped for itself, or hang on itself.
func TestFoldWhereNoRunComes(t *testing.T) {
	type pair struct{ lines, want string }
	for _, p := range []pair{
		// Dropped for itself: nothing is left that it could be.
		{"%4 = add i64 %4, 0; print %4", "print poison"},
		{"%4 = or i64 %4, %4; print %4", "print poison"},
		{"%4 = select i64 %3, %4, %4; print %4", "print poison"},
		{"%4 = select i64 1, %4, 5; print %4", "print poison"},
		{"%4 = add i64 0, %4; print %4", "print poison"},
		{"%4 = add i64 %4, 0; %5 = add i64 %4, %1; print %5", "print poison"},
		{"%4 = add i64 %4, 0; %5 = udiv i64 %1, %4; print %5", "%4 = udiv i64 %1, poison; print %4"},
		{"%4 = trunc i64 %5 to i8; %5 = zext i8 %4 to i64; print %5", "print poison"},
		// What is no argument of itself is dropped as ever.
		{"%4 = sub i64 %4, %4; print %4", "print 0"},
		{"%4 = mul i64 %4, 0; print %4", "print 0"},
		{"%4 = cmp eq i1 %4, %4; %5 = zext i1 %4 to i64; print %5", "print 1"},
		// Dropped for one that hangs on it.
		{"%4 = add i64 %5, 0; %5 = mul i64 %4, 3; print %4", "%4 = mul i64 %4, 3; print %4"},
		{"%4 = add i64 %5, 0; %5 = add i64 %4, 0; print %5", "print poison"},
		{"%4 = or i64 %5, %5; %5 = or i64 %6, %6; %6 = or i64 %4, %4; print %5", "print poison"},
		{"%4 = add i64 %5, 0; %5 = udiv i64 %1, %4; print %4", "%4 = udiv i64 %1, %4; print %4"},
		// Words that go round: a sum doubles until it is 0, a bit falls out, and what would stay as it is stays.
		{"%4 = add i64 %4, 1; print %4", "print poison"},
		{"%4 = add i64 %4, 3; print %4", "print poison"},
		{"%4 = xor i64 %4, 3; print %4", "print poison"},
		{"%4 = and i64 %4, 3; print %4", "%4 = and i64 %4, 3; print %4"},
		{"%4 = or i64 %4, 3; print %4", "%4 = or i64 %4, 3; print %4"},
		{"%4 = add i64 %5, 1; %5 = add i64 %4, 2; print %5", "print poison"},
		{"%4 = xor i64 %5, 1; %5 = xor i64 %6, 2; %6 = xor i64 %4, 4; print %5", "print poison"},
		{"%4 = and i64 %5, 3; %5 = and i64 %4, 6; print %5", "%4 = and i64 %4, 2; %5 = and i64 %4, 2; print %5"},
		{"%4 = sub i64 %4, 1; print %4", "print poison"},
		// What hangs on such values and is none of them is joined with them, as long as that leads on.
		{"%4 = xor i64 %5, 1; %5 = and i64 %5, 2; print %4", "%4 = xor i64 %5, 1; %5 = and i64 %5, 2; print %4"},
		{"%4 = and i64 %5, 6; %5 = and i64 %5, 3; print %4", "%4 = and i64 %5, 2; %5 = and i64 %5, 3; print %4"},
		{"%4 = xor i64 %5, 7; %5 = xor i64 %5, 3; print %4", "print poison"},
		{"%4 = add i64 %5, 7; %5 = add i64 %5, 3; print %4", "print poison"},
		{"%4 = or i64 %5, 4; %5 = or i64 %6, 2; %6 = or i64 %6, 1; print %4", "%4 = or i64 %6, 7; %5 = or i64 %6, 3; %6 = or i64 %6, 1; print %4"},
		{"%4 = xor i64 %5, 8; %5 = and i64 %6, 2; %6 = xor i64 %4, 1; print %4", "%4 = xor i64 %5, 8; %5 = and i64 %6, 2; %6 = xor i64 %5, 9; print %4"},
	} {
		for _, block := range []string{"0:; return i64 %1; 1:; %s; jump 1", "0:; return i64 %1; 1:; jump 1; 2:; %s; return i64 3"} {
			f, want := blocksOf(t, fmt.Sprintf(strings.Replace(block, "%1", "%%1", 1), p.lines)), blocksOf(t, fmt.Sprintf(strings.Replace(block, "%1", "%%1", 1), p.want))
			checkFold(t, f)
			if got := impl.Fold(f); !alike(got, want) {
				t.Errorf("%s gives\n%snot\n%s", p.lines, textOf(got), textOf(want))
			}
		}
	}
	checkSteps(t, []stepCase{
		{"a phi of one that is dropped for itself", "0:; jump 2; 1:; %4 = add i64 %4, 0; jump 2; 2:; %5 = phi i64 [%1, 0], [%4, 1]; return i64 %5", "0:; jump 2; 1:; jump 2; 2:; %4 = phi i64 [%1, 0], [poison, 1]; return i64 %4", false},
		{"a value of a block that can be come to", "0:; %4 = or i64 %1, %1; return i64 %4; 1:; %5 = add i64 %4, %5; jump 1", "0:; return i64 %1; 1:; %4 = add i64 %1, %4; jump 1", false},
		{"a sum doubles", "0:; return i64 %1; 1:; %4 = add nuw i8 %4, 3; jump 1", "0:; return i64 %1; 1:; %4 = add i8 %4, 6; jump 1", false},
	})
}

// TestFoldOffsetsThatGoRound: an offset doubles as long as the sum is a signed number.
func TestFoldOffsetsThatGoRound(t *testing.T) {
	for lines, want := range map[string]string{
		"%0 = offset %0, 1; store i8 1, %0":                                               "%0 = offset %0, 4611686018427387904; store i8 1, %0",
		"%0 = offset %0, -1; store i8 1, %0":                                              "%0 = offset %0, -9223372036854775808; store i8 1, %0",
		"%0 = offset %0, 0; store i8 1, %0":                                               "store i8 1, poison",
		"%0 = offset %1, 5; %1 = offset %0, -5; store i8 1, %1":                           "store i8 1, poison",
		"%0 = offset %1, 5; %1 = offset %1, 3; store i8 1, %0":                            "%0 = offset %1, 9223372036854775805; %1 = offset %1, 6917529027641081856; store i8 1, %0",
		"%0 = offset %1, 5; %1 = offset %2, 3; %2 = offset %2, 4611686018427387904; trap": "%0 = offset %2, 4611686018427387912; %1 = offset %2, 4611686018427387907; %2 = offset %2, 4611686018427387904; trap",
	} {
		text := func(lines string) impl.Func {
			if !strings.HasSuffix(lines, "trap") {
				lines += "; jump 1"
			}
			return moduleOf(t, "func @f strong () void {\n0:\n  return\n1:\n  "+strings.ReplaceAll(lines, "; ", "\n  ")+"\n}\n").Funcs[0]
		}
		checkFold(t, text(lines))
		if got := impl.Fold(text(lines)); !alike(got, text(want)) {
			t.Errorf("%s gives\n%s", lines, textOf(got))
		}
	}
}

// TestFoldOfWellMadeFunctions: each of them may be changed, and no other function is.
func TestFoldOfWellMadeFunctions(t *testing.T) {
	t.Parallel()
	for name, f := range soundFuncs() {
		if len(f.Blocks) < 1000 && !wantWellMade(f) {
			t.Fatal("the test's function with", name, "is not well-made")
		}
		want, _ := checkFold(t, f)
		if name != "40 blocks" {
			want = deepCopy(f)
			want.Blocks[0].Instrs = slices.DeleteFunc(want.Blocks[0].Instrs, func(i impl.Instr) bool { return i.Op == impl.OpAdd })
		}
		if got := impl.Fold(f); !alike(got, want) {
			t.Error(name, "gives\n", got)
		}
		if got := impl.FoldOnce(f); !got.Done || alike(got.Func, f) {
			t.Error(name, "gives in one step", got)
		}
		checkPure(t, "Fold", f, impl.Fold)
		checkPure(t, "FoldOnce", f, impl.FoldOnce)
	}
	for name, f := range faultyFuncs() {
		if got := impl.Fold(f); !alike(got, f) {
			t.Error(name, "gives", got)
		}
		if got := impl.FoldOnce(f); got.Done || !alike(got.Func, f) {
			t.Error(name, "gives in one step", got)
		}
		checkPure(t, "Fold", f, impl.Fold)
		checkPure(t, "FoldOnce", f, impl.FoldOnce)
	}
}
