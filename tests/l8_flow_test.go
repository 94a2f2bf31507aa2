package tests

import (
	"slices"
	"strings"
	"testing"

	"loop.example/g00010/impl"
)

// flowCase is a value of a function of several blocks, with its bits, the highest first, and its span.
type flowCase struct {
	name      string
	lines     string
	value     int64
	bits      string
	low, high uint64
}

func flowCases() []flowCase {
	const loop = "jump 1; 1:; %6 = phi i8 [4, 0], [%8, 1]; %7 = phi i8 [12, 0], [12, 1]; %8 = and i8 %6, 6; branch %0, 1, 2; 2:; %9 = or i8 %8, 1; return i64 0"
	const swap = "jump 1; 1:; %6 = phi i8 [4, 0], [5, 1]; %7 = phi i8 [20, 0], [%6, 1]; branch %0, 1, 2; 2:; return i64 0"
	const fork = "branch %0, 1, 2; 1:; %6 = or i8 %1, 12; jump 3; 2:; %7 = urem i8 %1, 16; jump 3; 3:; %8 = phi i8 [%6, 1], [%7, 2]; %9 = phi i8 [3, 1], [%7, 2]; return i64 0"
	const back = "jump 2; 1:; %6 = and i8 %7, -1; return i64 0; 2:; %7 = add i8 3, 4; jump 1"
	const dead = "jump 3; 1:; %6 = add i8 1, 2; %7 = shl i8 %6, 1; %8 = alloca 4; jump 3; 2:; jump 2; 3:; %9 = phi i8 [7, 0], [%6, 1]; %10 = phi i8 [7, 0], [5, 1]; return i64 0"
	return []flowCase{
		{"a phi at a loop's head, of what is not gone through yet", loop, 6, "???? ????", 0, 255},
		{"a phi of words at a loop's head", loop, 7, "0000 1100", 12, 12},
		{"what the loop makes of it", loop, 8, "0000 0??0", 0, 6},
		{"and what stands behind the loop", loop, 9, "0000 0??1", 1, 7},
		{"a phi of words", swap, 6, "0000 010?", 4, 5},
		{"a phi of one of its own block that stands ahead", swap, 7, "000? 010?", 4, 20},
		{"a phi of one that stands behind", strings.Replace(swap, "[4, 0], [5, 1]", "[4, 0], [%7, 1]", 1), 6, "???? ????", 0, 255},
		{"a phi of itself", strings.Replace(swap, "[4, 0], [5, 1]", "[4, 0], [%6, 1]", 1), 6, "???? ????", 0, 255},
		{"two ways that meet", fork, 8, "???? ????", 0, 255},
		{"two ways, of one a word", fork, 9, "0000 ????", 0, 15},
		{"on the one way", fork, 6, "???? 11??", 12, 255},
		{"a phi whose second argument is poison", strings.Replace(fork, "[3, 1], [%7, 2]", "[3, 1], [poison, 2]", 1), 9, "???? ????", 0, 255},
		{"a phi whose first argument is poison", strings.Replace(fork, "[3, 1], [%7, 2]", "[poison, 1], [3, 2]", 1), 9, "???? ????", 0, 255},
		{"a phi of pointers", strings.Replace(fork, "phi i8 [3, 1], [%7, 2]", "phi ptr [@g, 1], [%5, 2]", 1), 9, "", 0, 0},
		{"a block with a greater number that is gone through first", back, 6, "0000 0111", 0, 7},
		{"in a block that can't be come to", strings.Replace(dead, "%8 = alloca 4", "%8 = zext i8 3 to i16", 1), 6, "???? ????", 0, 255},
		{"there, of another one there", strings.Replace(dead, "%8 = alloca 4", "%8 = zext i8 3 to i16", 1), 7, "???? ????", 0, 255},
		{"there, of another width", strings.Replace(dead, "%8 = alloca 4", "%8 = zext i8 3 to i16", 1), 8, "???? ???? ???? ????", 0, 65535},
		{"there, a pointer", strings.Replace(dead, "%8 = alloca 4", "%8 = offset @g, 4", 1), 8, "", 0, 0},
		{"a phi of one that can't be come to", strings.Replace(dead, "%8 = alloca 4", "%8 = offset @g, 4", 1), 9, "???? ????", 0, 255},
		{"a phi of a word of a way that can't be come", strings.Replace(dead, "%8 = alloca 4", "%8 = offset @g, 4", 1), 10, "0000 01?1", 5, 7},
		{"a parameter of width 1", "return i64 0", 0, "?", 0, 1},
		{"a parameter of width 8", "return i64 0", 1, "???? ????", 0, 255},
		{"a parameter of width 16", "return i64 0", 2, "", 0, 65535},
		{"a parameter of width 32", "return i64 0", 3, "", 0, 1<<32 - 1},
		{"a parameter of width 64", "return i64 0", 4, "", 0, 1<<64 - 1},
		{"a parameter that is a pointer", "return i64 0", 5, "", 0, 0},
	}
}

func TestFactsOfBlocks(t *testing.T) {
	for _, c := range flowCases() {
		f := factFunc(t, c.lines)
		checkFacts(t, f)
		bits, spans := impl.KnownBits(f), impl.Spans(f)
		if types, _ := wantValues(f); len(bits) != len(types) || len(spans) != len(types) {
			t.Fatal(c.name, "has", len(bits), "and", len(spans), "entries, not", len(types))
		}
		if want := knownOf(reversed(strings.ReplaceAll(c.bits, " ", ""))); bits[c.value] != want {
			t.Errorf("%s: KnownBits gives %v, not %v", c.name, bits[c.value], want)
		}
		if want := (impl.Span{Low: c.low, High: c.high}); spans[c.value] != want {
			t.Errorf("%s: Spans gives %v, not %v", c.name, spans[c.value], want)
		}
	}
}

// caller has calls with the numbers of functions, each with one word of a width.
func caller(numbers []int64, types ...int64) impl.Func {
	f := function("caller", 0)
	f.Params = []int64{8}
	var list []impl.Instr
	for n, number := range numbers {
		w := types[min(n, len(types)-1)]
		list = append(list, call(number, 0, wordArg(w, 1)))
	}
	list = append(list, ins(impl.OpAdd, 8, wordArg(8, 1), wordArg(8, 2)), ins(impl.OpOffset, impl.TypePtr, globalArg(0), wordArg(64, 3)), ret())
	f.Blocks = []impl.Block{block(list...)}
	return f
}

func upTo(count int64) []int64 {
	var out []int64
	for n := range count {
		out = append(out, n)
	}
	return out
}

// turned is a function without calls in which something is changed.
func turned(do func(f *impl.Func)) impl.Func {
	f := caller(nil)
	do(&f)
	return f
}

// sums is a function of so many instructions.
func sums(count int) impl.Func {
	var list []impl.Instr
	for range count - 1 {
		list = append(list, ins(impl.OpAdd, 8, wordArg(8, 1), wordArg(8, 2)))
	}
	return function("sums", 0, block(append(list, ret())...))
}

// soundFuncs are functions that some module has without a fault.
func soundFuncs() map[string]impl.Func {
	list := map[string]impl.Func{
		"no calls":                     caller(nil),
		"weak":                         turned(func(f *impl.Func) { f.Link = impl.LinkWeak }),
		"local":                        turned(func(f *impl.Func) { f.Link = impl.LinkLocal }),
		"the last global":              turned(func(f *impl.Func) { f.Blocks[0].Instrs[1].Args[0] = globalArg(11) }),
		"six parameters":               turned(func(f *impl.Func) { f.Params = []int64{8, 1, 65, 64, 16, 32} }),
		"one callee":                   caller([]int64{0}, 64),
		"the last callee":              caller([]int64{11}, 64),
		"eleven callees":               caller(upTo(11), 64),
		"eleven callees, not the 0th":  caller([]int64{11, 10, 9, 8, 7, 6, 5, 4, 3, 2, 1}, 64),
		"itself alone":                 caller([]int64{4}, 8),
		"all of its own kind":          caller(upTo(12), 8),
		"twelve, the last of its kind": caller(upTo(12), 64, 64, 64, 64, 64, 64, 64, 64, 64, 64, 64, 8),
		"twelve, the first":            caller(upTo(12), 8, 64),
		"one callee often":             caller([]int64{5, 5, 5, 7, 5}, 16),
		"256 instructions":             sums(256),
		"40 blocks":                    longChain(40),
	}
	names := []string{strings.Repeat("z", 24), "x$0", "y.3", "__f1", "_0"}
	for _, letter := range "abcdefghijklmnopqrstuvwxyzABCDEFGHIJKLMNOPQRSTUVWXYZ_.$" {
		names = append(names, string(letter), string(letter)+"0", string(letter)+"g0", string(letter)+"f11")
	}
	for _, name := range names {
		list["the name "+name] = turned(func(f *impl.Func) { f.Name = name })
	}
	return list
}

// faultyFuncs are functions that no module has without a fault.
func faultyFuncs() map[string]impl.Func {
	list := map[string]impl.Func{
		"nothing":                       {},
		"extern":                        {Name: "f", Link: impl.LinkExtern, Params: []int64{8}, Result: 8},
		"extern with blocks":            turned(func(f *impl.Func) { f.Link = impl.LinkExtern }),
		"no link":                       turned(func(f *impl.Func) { f.Link = 4 }),
		"a link below 0":                turned(func(f *impl.Func) { f.Link = -1 }),
		"no blocks":                     turned(func(f *impl.Func) { f.Blocks = nil }),
		"an empty block":                turned(func(f *impl.Func) { f.Blocks = append(f.Blocks, block()) }),
		"no end":                        turned(func(f *impl.Func) { f.Blocks[0].Instrs = f.Blocks[0].Instrs[:2] }),
		"seven parameters":              turned(func(f *impl.Func) { f.Params = []int64{8, 8, 8, 8, 8, 8, 8} }),
		"a parameter of no type":        turned(func(f *impl.Func) { f.Params = []int64{8, 0} }),
		"a result of no type":           turned(func(f *impl.Func) { f.Result = 7 }),
		"a return of nothing":           turned(func(f *impl.Func) { f.Result = 8 }),
		"a flag too many":               turned(func(f *impl.Func) { f.Blocks[0].Instrs[0].Flags = 4 }),
		"a word that is none":           turned(func(f *impl.Func) { f.Blocks[0].Instrs[0].Args[1].Word = 256 }),
		"a value that there is not":     turned(func(f *impl.Func) { f.Blocks[0].Instrs[0].Args[1] = valueArg(8, 3) }),
		"a value of itself":             turned(func(f *impl.Func) { f.Blocks[0].Instrs[0].Args[1] = valueArg(8, 1) }),
		"a value of another type":       turned(func(f *impl.Func) { f.Blocks[0].Instrs[0].Args[1] = valueArg(8, 2) }),
		"a global too many":             turned(func(f *impl.Func) { f.Blocks[0].Instrs[1].Args[0] = globalArg(12) }),
		"a global below 0":              turned(func(f *impl.Func) { f.Blocks[0].Instrs[1].Args[0] = globalArg(-1) }),
		"a callee too many":             caller([]int64{12}, 64),
		"a callee of its kind too many": caller([]int64{12}, 8),
		"a callee below 0":              caller([]int64{-1}, 8),
		"a great callee":                caller([]int64{1 << 62}, 64),
		"the least callee":              caller([]int64{-1 << 63}, 64),
		"twelve callees, none alike":    caller(upTo(12), 64),
		"two calls that differ":         caller([]int64{3, 3}, 8, 16),
		"two calls that differ, turned": caller([]int64{3, 3}, 16, 8),
		"three, the middle one differs": caller([]int64{3, 3, 3}, 16, 8, 16),
		"twelve, and one of them both":  caller(append(upTo(12), 11), 64, 64, 64, 64, 64, 64, 64, 64, 64, 64, 64, 64, 8),
		"a call of no type":             caller([]int64{3}, 7),
		"a call of seven": turned(func(f *impl.Func) {
			f.Blocks[0].Instrs[0] = call(2, 8, slices.Repeat([]impl.Operand{wordArg(8, 1)}, 7)...)
		}),
		"a call that makes no type":  turned(func(f *impl.Func) { f.Blocks[0].Instrs[0] = call(2, 9) }),
		"a call of what it makes":    turned(func(f *impl.Func) { f.Blocks[0].Instrs[0] = call(2, 8, valueArg(8, 1)) }),
		"a call with blocks":         turned(func(f *impl.Func) { f.Blocks[0].Instrs[0] = impl.Instr{Op: impl.OpCall, Type: 8, Blocks: []int64{0}} }),
		"257 instructions":           sums(257),
		"41 blocks":                  longChain(41),
		"40000 blocks":               longChain(40000),
		"too great a frame":          function("f", 0, block(alloca(256), alloca(256), alloca(1), ret())),
		"an alloca elsewhere":        function("f", 0, block(jump(1)), block(alloca(1), ret())),
		"block 0 is gone to":         function("f", 0, block(ins(impl.OpAdd, 8, wordArg(8, 1), wordArg(8, 2)), jump(0))),
		"a phi of another block":     function("f", 0, block(jump(1)), block(phi(8, []int64{1}, wordArg(8, 1)), ret())),
		"a value that is further on": function("f", 0, block(ins(impl.OpAdd, 8, valueArg(8, 1), wordArg(8, 2)), ins(impl.OpAdd, 8, wordArg(8, 1), wordArg(8, 2)), ret())),
		"a value that does not dominate": function("f", 0, block(branch(wordArg(1, 1), 1, 2)), block(ins(impl.OpAdd, 8, wordArg(8, 1), wordArg(8, 2)), jump(2)),
			block(ins(impl.OpAdd, 8, valueArg(8, 0), wordArg(8, 2)), ret())),
	}
	for _, name := range []string{"", "0a", "a b", strings.Repeat("z", 25), "a\xff", "\n"} {
		list["the name "+name] = turned(func(f *impl.Func) { f.Name = name })
	}
	return list
}

// TestFactsOfWellMadeFunctions: of each of them there are facts, and of no other function.
func TestFactsOfWellMadeFunctions(t *testing.T) {
	for name, f := range soundFuncs() {
		types, _ := wantValues(f)
		if len(f.Blocks) < 1000 && !wantWellMade(f) {
			t.Fatal("the test's function with", name, "is not well-made")
		}
		bits, spans := impl.KnownBits(f), impl.Spans(f)
		if len(bits) != len(types) || len(spans) != len(types) {
			t.Error(name, "has", len(bits), "and", len(spans), "entries, not", len(types))
		}
		if len(types) == 3 && (bits[1] != impl.Known{Zero: 252, One: 3} || spans[1] != impl.Span{Low: 3, High: 3}) {
			t.Error(name, "has the facts", bits, spans)
		}
		if got := impl.Alias(f, globalArg(0), 4, globalArg(1), 4); got != impl.AliasNone {
			t.Error(name, "has two globals that are", got)
		}
		checkPure(t, "KnownBits", f, impl.KnownBits)
		checkPure(t, "Spans", f, impl.Spans)
	}
	for name, f := range faultyFuncs() {
		if len(f.Blocks) < 1000 && wantWellMade(f) {
			t.Fatal("the test's function with", name, "is well-made")
		}
		if bits, spans := impl.KnownBits(f), impl.Spans(f); len(bits) > 0 || len(spans) > 0 {
			t.Error(name, "has the facts", bits, spans)
		}
		for _, b := range []int64{0, 1} {
			if got := impl.Alias(f, globalArg(0), 4, globalArg(b), 4); got != impl.AliasMay {
				t.Error(name, "has globals that are", got)
			}
		}
		checkPure(t, "KnownBits", f, impl.KnownBits)
		checkPure(t, "Spans", f, impl.Spans)
		checkPure(t, "Alias", f, func(f impl.Func) int64 { return impl.Alias(f, valueArg(impl.TypePtr, 2), 4, globalArg(0), 4) })
	}
}
