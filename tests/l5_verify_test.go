package tests

import (
	"slices"
	"testing"

	"loop.example/g00010/impl"
)

// verifyCase is a module by its text, and its fault.
type verifyCase struct {
	name string
	text string
	want impl.Fault
}

func moduleOf(t *testing.T, text string) impl.Module {
	t.Helper()
	r := impl.ParseModule(text)
	if !r.Good {
		t.Fatalf("no text of a module:\n%s", text)
	}
	return r.Module
}

// body is the text of a strong function with one parameter.
func body(lines string) string {
	return "func @f strong (i64) void {\n" + lines + "}\n"
}

// in0 is a fault of the function 0.
func in0(code, block, at int64) impl.Fault {
	return impl.Fault{Code: code, Block: block, At: at}
}

func checkCases(t *testing.T, list []verifyCase) {
	t.Helper()
	for _, c := range list {
		m := moduleOf(t, c.text)
		if got := impl.Verify(m); got != c.want {
			t.Errorf("%s: Verify gives %v, not %v", c.name, got, c.want)
		}
		checkVerify(t, m)
		checkPure(t, "Verify", m, impl.Verify)
	}
}

// soundCases have no fault.
func soundCases() []verifyCase {
	none := impl.Fault{}
	return []verifyCase{
		{"a function that is extern", "func @f extern (i64) ptr\n", none},
		{"globals alone", "global @g extern 4\nglobal @h weak fixed 4 0102\n", none},
		{"one block", body("0:\n  return\n"), none},
		{"a parameter", body("0:\n  jump 1\n1:\n  print %0\n  return\n"), none},
		{"defined ahead in the block", body("0:\n  %1 = add i64 %0, %0\n  %2 = add i64 %1, %1\n  print %2\n  return\n"), none},
		{"defined in a block that dominates", body("0:\n  %1 = add i64 %0, 1\n  branch 1, 1, 2\n1:\n  jump 3\n2:\n  print %1\n  jump 3\n3:\n  print %1\n  return\n"), none},
		{"defined in a block with a greater number", body("0:\n  jump 2\n1:\n  print %1\n  return\n2:\n  %1 = add i64 %0, 1\n  jump 1\n"), none},
		{"two ways that meet", body("0:\n  branch 0, 1, 2\n1:\n  %1 = add i64 %0, 1\n  jump 3\n2:\n  %2 = add i64 %0, 2\n  jump 3\n3:\n  %3 = phi i64 [%1, 1], [%2, 2]\n  print %3\n  return\n"), none},
		{"both ways of a branch to one block", body("0:\n  branch 1, 1, 1\n1:\n  %1 = phi i64 [%0, 0]\n  print %1\n  return\n"), none},
		{"a block that goes to itself", body("0:\n  jump 1\n1:\n  %1 = phi i64 [%0, 0], [%2, 1]\n  %2 = add i64 %1, 1\n  branch 1, 1, 2\n2:\n  print %2\n  return\n"), none},
		{"a phi of itself", body("0:\n  jump 1\n1:\n  %1 = phi i64 [%0, 0], [%1, 1]\n  jump 1\n"), none},
		{"phis that take one another", body("0:\n  jump 1\n1:\n  %1 = phi i64 [0, 0], [%2, 1]\n  %2 = phi i64 [%0, 0], [%1, 1]\n  jump 1\n"), none},
		{"a loop in a loop", body("0:\n  jump 1\n1:\n  %1 = phi i64 [0, 0], [%3, 4]\n  jump 2\n2:\n  %2 = phi i64 [%1, 1], [%3, 3]\n  %3 = add i64 %2, 1\n  branch 1, 3, 4\n3:\n  jump 2\n4:\n  branch 0, 1, 5\n5:\n  print %3\n  return\n"), none},
		{"a switch", body("0:\n  switch i64 %0, 2, 5: 1, -1: 2\n1:\n  jump 2\n2:\n  %1 = phi i64 [1, 0], [2, 1]\n  print %1\n  return\n"), none},
		{"functions that call one another", "func @a strong () i64 {\n0:\n  %0 = call i64 @b(7)\n  return i64 %0\n}\nfunc @b local (i64) i64 {\n0:\n  %1 = call i64 @a()\n  %2 = call i64 @b(%1)\n  return i64 %2\n}\n", none},
	}
}

// faultCases: each of the three faults, and those that lie just beside one.
func faultCases() []verifyCase {
	none := impl.Fault{}
	return []verifyCase{
		{"block 0 goes to itself", body("0:\n  jump 0\n"), in0(10, 0, -1)},
		{"block 0 by a branch to itself", body("0:\n  branch 1, 1, 0\n1:\n  return\n"), in0(10, 0, -1)},
		{"a loop around block 0", body("0:\n  jump 1\n1:\n  jump 0\n"), in0(10, 0, -1)},
		{"block 0 by the last of a switch", body("0:\n  jump 1\n1:\n  switch i64 %0, 1, 5: 1, 6: 0\n"), in0(10, 0, -1)},
		{"block 0 by a block that can't be come to", body("0:\n  return\n1:\n  jump 0\n"), in0(10, 0, -1)},
		{"a phi in block 0", body("0:\n  %1 = phi i64 [%0, 0]\n  return\n"), in0(11, 0, 0)},

		{"blocks that are not rising", body("0:\n  branch 1, 1, 2\n1:\n  jump 2\n2:\n  %1 = phi i64 [1, 1], [2, 0]\n  return\n"), in0(11, 2, 0)},
		{"a block twice", body("0:\n  branch 1, 1, 2\n1:\n  jump 2\n2:\n  %1 = phi i64 [1, 0], [1, 0], [2, 1]\n  return\n"), in0(11, 2, 0)},
		{"a block twice that goes there twice", body("0:\n  branch 1, 1, 1\n1:\n  %1 = phi i64 [1, 0], [1, 0]\n  return\n"), in0(11, 1, 0)},
		{"a block twice in place of another", body("0:\n  branch 1, 1, 2\n1:\n  jump 2\n2:\n  %1 = phi i64 [1, 0], [1, 0]\n  return\n"), in0(11, 2, 0)},
		{"the last block is lacking", body("0:\n  branch 1, 1, 2\n1:\n  jump 2\n2:\n  %1 = phi i64 [1, 0]\n  return\n"), in0(11, 2, 0)},
		{"the first block is lacking", body("0:\n  branch 1, 1, 2\n1:\n  jump 2\n2:\n  %1 = phi i64 [1, 1]\n  return\n"), in0(11, 2, 0)},
		{"one too many behind", body("0:\n  jump 1\n1:\n  %1 = phi i64 [1, 0], [2, 2]\n  return\n2:\n  return\n"), in0(11, 1, 0)},
		{"one too many ahead", body("0:\n  jump 2\n1:\n  return\n2:\n  %1 = phi i64 [1, 0], [2, 1]\n  return\n"), in0(11, 2, 0)},
		{"another block", body("0:\n  jump 1\n1:\n  %1 = phi i64 [1, 1]\n  return\n"), in0(11, 1, 0)},
		{"the second phi", body("0:\n  jump 1\n1:\n  %1 = phi i64 [1, 0]\n  %2 = phi i64 [1, 1]\n  return\n"), in0(11, 1, 1)},
		{"a block that can't be come to is not named", body("0:\n  jump 1\n1:\n  %1 = phi i64 [1, 0]\n  return\n2:\n  jump 1\n"), in0(11, 1, 0)},
		{"a phi in a block where none goes", body("0:\n  return\n1:\n  %1 = phi i64 [1, 0]\n  return\n"), in0(11, 1, 0)},
		{"a phi in a block that can't be come to", body("0:\n  return\n1:\n  %1 = phi i64 [1, 1], [2, 2]\n  jump 1\n2:\n  return\n"), in0(11, 1, 0)},
		{"one there that is as it should be", body("0:\n  return\n1:\n  %1 = phi i64 [%1, 1], [%2, 2]\n  jump 1\n2:\n  %2 = add i64 %1, %3\n  %3 = add i64 %3, %2\n  jump 1\n"), none},
	}
}

func argumentCases() []verifyCase {
	none := impl.Fault{}
	return []verifyCase{
		{"its own value", body("0:\n  %1 = add i64 %0, %1\n  return\n"), in0(12, 0, 0)},
		{"behind in the block", body("0:\n  print %0\n  print %1\n  %1 = add i64 %0, 1\n  return\n"), in0(12, 0, 1)},
		{"behind in a loop of one block", body("0:\n  jump 1\n1:\n  print %1\n  %1 = add i64 %0, 1\n  jump 1\n"), in0(12, 1, 0)},
		{"in a block behind", body("0:\n  print %1\n  jump 1\n1:\n  %1 = add i64 %0, 1\n  return\n"), in0(12, 0, 0)},
		{"on one of two ways", body("0:\n  branch 1, 1, 2\n1:\n  %1 = add i64 %0, 1\n  jump 2\n2:\n  print %1\n  return\n"), in0(12, 2, 0)},
		{"on the other way", body("0:\n  branch 1, 1, 2\n1:\n  %1 = add i64 %0, 1\n  return\n2:\n  print %1\n  return\n"), in0(12, 2, 0)},
		{"in a block that can't be come to", body("0:\n  print %1\n  return\n1:\n  %1 = add i64 %0, 1\n  jump 2\n2:\n  return\n"), in0(12, 0, 0)},
		{"there, and it goes to the use", body("0:\n  jump 2\n1:\n  %1 = add i64 %0, 1\n  jump 2\n2:\n  print %1\n  return\n"), in0(12, 2, 0)},
		{"in an end", body("0:\n  %1 = cmp eq i64 %0, 1\n  branch %2, 1, 1\n1:\n  %2 = cmp eq i64 %0, 1\n  branch %1, 2, 2\n2:\n  return\n"), in0(12, 0, 1)},
		{"the second argument", body("0:\n  %1 = add i64 %0, %2\n  %2 = add i64 %0, %1\n  return\n"), in0(12, 0, 0)},
		{"used in a block that can't be come to", body("0:\n  return\n1:\n  print %1\n  %1 = add i64 %1, %2\n  return\n2:\n  %2 = add i64 %1, 1\n  return\n"), none},
		{"used there, and the block goes on to others", body("0:\n  branch 1, 2, 2\n1:\n  print %1\n  jump 2\n2:\n  %1 = add i64 %0, 1\n  return\n"), none},

		{"at the end of the block that belongs to it", body("0:\n  jump 1\n1:\n  print %0\n  %1 = add i64 %0, 1\n  jump 2\n2:\n  %2 = phi i64 [%1, 1]\n  return\n"), none},
		{"a phi's in its own block, which does not go to itself", body("0:\n  jump 1\n1:\n  %1 = phi i64 [%2, 0]\n  %2 = add i64 %0, 1\n  return\n"), in0(12, 1, 0)},
		{"a phi of itself from outside", body("0:\n  jump 1\n1:\n  %1 = phi i64 [%1, 0], [%0, 1]\n  jump 1\n"), in0(12, 1, 0)},
		{"a phi of the one ahead of it", body("0:\n  jump 1\n1:\n  %1 = phi i64 [%0, 0]\n  %2 = phi i64 [%1, 0]\n  return\n"), in0(12, 1, 1)},
		{"the other way's value", body("0:\n  branch 0, 1, 2\n1:\n  %1 = add i64 %0, 1\n  jump 3\n2:\n  %2 = add i64 %0, 2\n  jump 3\n3:\n  %3 = phi i64 [%2, 1], [%1, 2]\n  return\n"), in0(12, 3, 0)},
		{"the second argument of a phi", body("0:\n  branch 0, 1, 2\n1:\n  %1 = add i64 %0, 1\n  jump 3\n2:\n  jump 3\n3:\n  %2 = phi i64 [%1, 1], [%1, 2]\n  return\n"), in0(12, 3, 0)},
		{"behind the loops in which it is used", body("0:\n  jump 1\n1:\n  %1 = phi i64 [0, 0], [%3, 4]\n  jump 2\n2:\n  %2 = phi i64 [%1, 1], [%3, 3]\n  branch 1, 3, 4\n3:\n  jump 2\n4:\n  branch 0, 1, 5\n5:\n  %3 = add i64 0, 0\n  return\n"), in0(12, 1, 0)},
		{"what belongs to a block that can't be come to", body("0:\n  jump 1\n1:\n  %1 = phi i64 [%0, 0], [%2, 2]\n  %2 = add i64 %1, 1\n  return\n2:\n  jump 1\n"), none},
		{"what is defined there is not of the other", body("0:\n  jump 1\n1:\n  %1 = phi i64 [%2, 0], [%0, 2]\n  return\n2:\n  %2 = add i64 %0, 1\n  jump 1\n"), in0(12, 1, 0)},
	}
}

// firstCases have several faults, of which the first by place is told, and at one place the one that is looked for first.
func firstCases() []verifyCase {
	loop, early := "0:\n  jump 0\n", "0:\n  print %1\n  %1 = add i64 0, 0\n  return\n"
	extern := "func @e extern (i64) void\n"
	other := func(lines string) string { return "func @g local (i64) void {\n" + lines + "}\n" }
	return []verifyCase{
		{"two functions", body(early) + other(loop), in0(12, 0, 0)},
		{"the second function", body("0:\n  return\n") + other(loop), impl.Fault{Code: 10, Func: 1, At: -1}},
		{"the one behind an extern one", extern + body(early) + other(loop), impl.Fault{Code: 12, Func: 1}},
		{"extern ones between", extern + body("0:\n  return\n") + "func @h extern () i64\n" + other(early), impl.Fault{Code: 12, Func: 3}},
		{"two blocks", body("0:\n  jump 1\n1:\n  print %2\n  jump 2\n2:\n  %1 = phi i64 [0, 0]\n  %2 = add i64 %1, 1\n  return\n"), in0(12, 1, 0)},
		{"two blocks, by number and not by way", body("0:\n  jump 2\n1:\n  print %1\n  return\n2:\n  print %1\n  %1 = add i64 %0, 1\n  branch 1, 1, 3\n3:\n  print %2\n  jump 4\n4:\n  %2 = add i64 %0, 1\n  return\n"), in0(12, 2, 0)},
		{"two instructions", body("0:\n  jump 1\n1:\n  %1 = phi i64 [0, 0]\n  print %0\n  print %2\n  print %2\n  %2 = add i64 %2, 1\n  return\n"), in0(12, 1, 2)},
		{"11 ahead of 12 in a block", body("0:\n  jump 1\n1:\n  %1 = phi i64 [0, 1]\n  print %2\n  %2 = add i64 0, 1\n  return\n"), in0(11, 1, 0)},
		{"12 ahead of 11 in a block", body("0:\n  jump 1\n1:\n  %1 = phi i64 [%2, 0]\n  %2 = phi i64 [0, 1]\n  return\n"), in0(12, 1, 0)},
		{"one instruction", body("0:\n  jump 1\n1:\n  %1 = phi i64 [%1, 0], [%2, 2]\n  return\n2:\n  %2 = add i64 %2, 1\n  return\n"), in0(11, 1, 0)},
		{"10 ahead of the first instruction", body("0:\n  %1 = phi i64 [%1, 1]\n  print %2\n  jump 1\n1:\n  %2 = add i64 %2, 1\n  jump 0\n"), in0(10, 0, -1)},
		{"10 ahead of 11 where block 0 goes to itself", body("0:\n  %1 = phi i64 [%1, 0]\n  jump 0\n"), in0(10, 0, -1)},
		{"10 ahead of what stands behind", body("0:\n  jump 1\n1:\n  %1 = add i64 %1, 1\n  jump 2\n2:\n  jump 0\n"), in0(10, 0, -1)},
	}
}

func TestVerify(t *testing.T) {
	checkCases(t, soundCases())
	checkCases(t, faultCases())
	checkCases(t, argumentCases())
	checkCases(t, firstCases())
}

func TestVerifyWholeModules(t *testing.T) {
	for n, m := range []impl.Module{{}, fullModule(), ofFuncs(sumFunc()), exampleModule(), ofGlobals(fullModule().Globals...), ofFuncs(fullModule().Funcs[:2]...)} {
		if got := impl.Verify(m); got != (impl.Fault{}) {
			t.Error("module", n, "has the fault", got)
		}
		checkVerify(t, m)
		checkPure(t, "Verify", m, impl.Verify)
	}
}

// TestVerifyTellsShapesFirst: a fault of shape goes ahead of the three, wherever it stands.
func TestVerifyTellsShapesFirst(t *testing.T) {
	bad := function("bad", 0, block(jump(0)), block(phi(64, to(1), valueArg(64, 0)), ins(impl.OpAdd, 64, valueArg(64, 1), wordArg(64, 1)), ret()))
	late := function("late", 0, block(ret()), block(ins(impl.OpPrint, 0, wordArg(64, 1)), ins(impl.OpAdd, 64, wordArg(8, 1), wordArg(8, 1)), ret()))
	noEnd, empty, heavy := late, late, late
	noEnd.Blocks = []impl.Block{block(trap()), block(ins(impl.OpPrint, 0, wordArg(64, 1)))}
	empty.Blocks = []impl.Block{block(trap()), block()}
	heavy.Params = to(64, 64, 64, 64, 64, 64, 64)
	behind := sumFunc()
	behind.Blocks[3].Instrs = []impl.Instr{phi(64, to(1), wordArg(64, 1)), use(0), phi(64, to(1), valueArg(64, 6)), ret(valueArg(64, 6))}
	extern := impl.Func{Name: "e", Link: impl.LinkExtern, Blocks: bad.Blocks}
	for _, c := range []struct {
		m    impl.Module
		want impl.Fault
	}{
		{ofFuncs(bad), impl.Fault{Code: 10, At: -1}},
		{ofFuncs(bad, late), impl.Fault{Code: 8, Func: 1, Block: 1, At: 1}},
		{ofFuncs(bad, noEnd), impl.Fault{Code: 4, Func: 1, Block: 1}},
		{ofFuncs(bad, empty), impl.Fault{Code: 4, Func: 1, Block: 1, At: -1}},
		{ofFuncs(bad, heavy), impl.Fault{Code: 3, Func: 1, Block: -1, At: -1}},
		{ofFuncs(bad, bad), impl.Fault{Code: 3, Func: 1, Block: -1, At: -1}},
		{ofFuncs(bad, behind), impl.Fault{Code: 9, Func: 1, Block: 3, At: 2}},
		{ofFuncs(bad, extern), impl.Fault{Code: 3, Func: 1, Block: -1, At: -1}},
		{ofFuncs(bad, impl.Func{Name: "e"}), impl.Fault{Code: 10, At: -1}},
		{ofFuncs(impl.Func{Name: "e"}, bad), impl.Fault{Code: 10, Func: 1, At: -1}},
		{impl.Module{Globals: []impl.Global{{Name: "g", Link: 1, Size: 1}, {Name: "h", Link: 1}}, Funcs: []impl.Func{bad}}, impl.Fault{Code: 2, Func: -1, Block: -1, At: 1}},
		{ofFuncs(slices.Repeat([]impl.Func{bad}, impl.MaxFuncs+1)...), impl.Fault{Code: 1, Func: -1, Block: -1, At: -1}},
		{ofGlobals(make([]impl.Global, impl.MaxGlobals+1)...), impl.Fault{Code: 1, Func: -1, Block: -1, At: -1}},
	} {
		if got := impl.Verify(c.m); got != c.want {
			t.Errorf("Verify gives %v, not %v: %+v", got, c.want, c.m)
		}
		checkVerify(t, c.m)
		checkPure(t, "Verify", c.m, impl.Verify)
	}
}

// longChain has as many blocks as it is asked for, each of which uses what the one ahead of it defines.
func longChain(count int64) impl.Func {
	f := function("chain", 0)
	for b := range count {
		f.Blocks = append(f.Blocks, block(define(max(b, 1)-1, max(b, 1)-1), use(b), jump(b+1)))
	}
	f.Blocks[0].Instrs[0] = ins(impl.OpAdd, 64, wordArg(64, 1), wordArg(64, 1))
	f.Blocks[count-1].Instrs[2] = ret()
	return f
}

// wideFork goes from block 0 to many, and from these to the last one, which has a phi of what each defines.
func wideFork(count int64) impl.Func {
	f := function("fork", 0)
	var names []int64
	for b := range count {
		f.Blocks = append(f.Blocks, block(branch(wordArg(1, 1), b+1, count+b)))
	}
	f.Blocks[count-1] = block(jump(count))
	for b := range count {
		names = append(names, count+b)
		f.Blocks = append(f.Blocks, block(ins(impl.OpAdd, 64, wordArg(64, 1), wordArg(64, 1)), jump(2*count)))
	}
	values := make([]int64, count)
	for b := range values {
		values[b] = int64(b)
	}
	f.Blocks = append(f.Blocks, block(meet(names, values...), ret()))
	return f
}

func TestVerifyLongFunctions(t *testing.T) {
	chain := longChain(impl.MaxBlocks)
	for b := range impl.MaxBlocks - 1 {
		m := deepCopy(ofFuncs(chain))
		m.Funcs[0].Blocks[b].Instrs[1] = use(int64(b) + 1)
		if got, want := impl.Verify(m), in0(12, int64(b), 1); got != want {
			t.Errorf("Verify gives %v, not %v", got, want)
		}
	}
	fork := wideFork(19)
	for n := range 19 {
		m := deepCopy(ofFuncs(fork))
		args := m.Funcs[0].Blocks[38].Instrs[0].Args
		args[n], args[(n+1)%19] = args[(n+1)%19], args[n]
		if got, want := impl.Verify(m), in0(12, 38, 0); got != want {
			t.Errorf("Verify gives %v, not %v", got, want)
		}
	}
	for n, f := range []impl.Func{chain, fork} {
		if got := impl.Verify(ofFuncs(f)); got != (impl.Fault{}) {
			t.Error("function", n, "has the fault", got)
		}
		checkVerify(t, ofFuncs(f))
	}
}

// TestVerifyManyBlocks: of many more than a function may have, and of phis, which have no such bound.
func TestVerifyManyBlocks(t *testing.T) {
	const count = 100000
	head := impl.Fault{Code: 3, Block: -1, At: -1}
	extern := longChain(count)
	extern.Link = impl.LinkExtern
	phis := function("phis", 0, block(jump(1)), block(phi(64, make([]int64, count), slices.Repeat([]impl.Operand{wordArg(64, 1)}, count)...), ret()))
	for n, c := range []struct {
		f    impl.Func
		want impl.Fault
	}{
		{longChain(count), head}, {wideFork(count), head}, {longChain(impl.MaxBlocks + 1), head}, {extern, head},
		{chainOf(count, func(b int64) []int64 { return to(0, b) }), head}, {longFunc(count), head}, {phis, in0(11, 1, 0)},
	} {
		inTime(t, "many blocks", func() {
			if got := impl.Verify(ofFuncs(c.f)); got != c.want {
				t.Errorf("function %d: Verify gives %v, not %v", n, got, c.want)
			}
		})
	}
}
