package tests

import (
	"reflect"
	"strings"
	"testing"

	"loop.example/g00010/impl"
)

func TestConstantsOfModules(t *testing.T) {
	for i, op := range []int64{impl.OpPhi, impl.OpAlloca, impl.OpLoad, impl.OpStore, impl.OpOffset, impl.OpCall, impl.OpPrint, impl.OpJump, impl.OpBranch, impl.OpSwitch, impl.OpReturn, impl.OpTrap} {
		if op != int64(i)+20 {
			t.Error("operation", i+20, "has the number", op)
		}
	}
	got := [...]int64{impl.TypeNone, impl.TypePtr, impl.OperandWord, impl.OperandNull, impl.OperandPoison, impl.OperandValue, impl.OperandGlobal, impl.LinkExtern, impl.LinkStrong, impl.LinkWeak, impl.LinkLocal}
	if got != [...]int64{0, 65, 1, 2, 3, 4, 5, 0, 1, 2, 3} {
		t.Error("types, operands, links", got)
	}
	bounds := [...]int64{impl.MaxName, impl.MaxFuncs, impl.MaxGlobals, impl.MaxParams, impl.MaxBlocks, impl.MaxInstrs, impl.MaxCases, impl.MaxObject, impl.MaxFrame}
	if bounds != [...]int64{24, 12, 12, 6, 40, 256, 12, 256, 512} {
		t.Error("bounds", bounds)
	}
}

func TestTypesAndSizes(t *testing.T) {
	sizes := map[int64]int64{1: 1, 8: 1, 16: 2, 32: 4, 64: 8, 65: 8}
	check := func(typ int64) {
		size, is := sizes[typ]
		if impl.ValidType(typ) != is || impl.SizeOf(typ) != size {
			t.Error("type", typ, impl.ValidType(typ), impl.SizeOf(typ))
		}
	}
	for typ := int64(-300); typ <= 300; typ++ {
		check(typ)
	}
	for _, typ := range append([]int64{1<<32 + 65, 1<<63 - 64, -1<<63 + 65}, strange...) {
		check(typ)
	}
}

func TestValidName(t *testing.T) {
	for c := range 256 {
		one := string([]byte{byte(c)})
		letter := 'a' <= c && c <= 'z' || 'A' <= c && c <= 'Z' || c == '_' || c == '.' || c == '$'
		digit := '0' <= c && c <= '9'
		if impl.ValidName(one) != letter || impl.ValidName(one+"a") != letter || impl.ValidName("a"+one) != (letter || digit) || impl.ValidName("a"+one+"b") != (letter || digit) {
			t.Error("the byte", c)
		}
	}
	for length := range 60 {
		if got := impl.ValidName(strings.Repeat("x", length)); got != (length >= 1 && length <= impl.MaxName) {
			t.Error("a name of", length, "bytes", got)
		}
	}
	for name, want := range map[string]bool{
		"": false, "0": false, "9a": false, "a9": true, "$": true, ".": true, "_0": true, "a$1": true, "a b": false, "a\x00": false, "a\n": false, " a": false, "@a": false, "%1": false, "a-b": false, "\u00e9": false, "a\u00e9": false, "a\xff": false,
		strings.Repeat("x", 23) + "\u00e9": false, strings.Repeat("y", 100000): false,
	} {
		if impl.ValidName(name) != want {
			t.Errorf("%.40q", name)
		}
	}
}

func TestIsEnd(t *testing.T) {
	for op := int64(-70); op <= 70; op++ {
		if impl.IsEnd(op) != (op == impl.OpJump || op == impl.OpBranch || op == impl.OpSwitch || op == impl.OpReturn || op == impl.OpTrap) {
			t.Error("operation", op)
		}
	}
	for _, op := range []int64{-1 << 63, 1<<63 - 1, 1<<32 + impl.OpJump, -impl.OpTrap} {
		if impl.IsEnd(op) {
			t.Error("operation", op)
		}
	}
}

// manyFuncs are functions in the right shape, and others that no module could have.
func manyFuncs() []impl.Func {
	odd := impl.Func{Params: []int64{7, 0, -1}, Result: 99, Blocks: []impl.Block{
		{},
		block(impl.Instr{Op: 99, Type: -5, Args: []impl.Operand{valueArg(3, 3), valueArg(8, 3), valueArg(0, 0)}}, impl.Instr{}, impl.Instr{Op: impl.OpStore, Type: 1 << 62}),
		{},
		block(jump(-7), ret(valueArg(64, 4), valueArg(64, 1<<63-1), impl.Operand{Kind: impl.OperandGlobal, Index: 2}), ins(impl.OpAdd, 0), ins(impl.OpAdd, 64, valueArg(64, 5))),
	}}
	list := []impl.Func{{}, {Params: []int64{64}}, {Blocks: []impl.Block{{}}}, {Blocks: []impl.Block{{}, {}, block(trap())}}, sumFunc(), everyOperation(), odd}
	s := sequence(3)
	for range 300 {
		m := fullModule()
		for range 1 + s.next()%8 {
			turnSomething(&s, &m)
		}
		list = append(list, m.Funcs...)
	}
	return list
}

func TestValuesOfAFunction(t *testing.T) {
	f := sumFunc()
	if got := impl.ValueTypes(f); !reflect.DeepEqual(got, []int64{64, 64, 64, 1, 64, 64}) {
		t.Error("ValueTypes", got)
	}
	none := impl.Place{Block: -1, At: -1}
	for value, want := range map[int64]impl.Place{0: none, 1: {Block: 1, At: 0}, 2: {Block: 1, At: 1}, 3: {Block: 1, At: 2}, 4: {Block: 2, At: 0}, 5: {Block: 2, At: 1}, 6: none, -1: none, -1 << 63: none, 1<<63 - 1: none} {
		if got := impl.DefinedAt(f, value); got != want {
			t.Error("DefinedAt", value, "gives", got)
		}
	}
	for place, want := range map[impl.Place]int64{{Block: 1, At: 2}: 3, {Block: 2, At: 1}: 5, {Block: 0, At: 0}: -1, {Block: 1, At: 3}: -1, {Block: 1, At: 4}: -1, {Block: 4, At: 0}: -1, none: -1, {Block: -1, At: 0}: -1, {Block: 1, At: -1}: -1, {Block: 1 << 62, At: -1 << 63}: -1} {
		if got := impl.ResultOf(f, place.Block, place.At); got != want {
			t.Error("ResultOf", place, "gives", got)
		}
	}
	for value, want := range map[int64][]impl.Place{0: {{Block: 1, At: 2}}, 1: {{Block: 1, At: 2}, {Block: 2, At: 0}, {Block: 2, At: 1}}, 2: {{Block: 2, At: 0}, {Block: 3, At: 0}}, 5: {{Block: 1, At: 0}}, 6: nil, -1: nil, 1<<63 - 1: nil} {
		if got := impl.UsesOf(f, value); !alike(got, want) {
			t.Error("UsesOf", value, "gives", got)
		}
	}
	twice := function("twice", 0, block(ins(impl.OpAdd, 8, valueArg(8, 0), valueArg(8, 0)), ret()))
	twice.Params = []int64{8}
	if got := impl.UsesOf(twice, 0); len(got) != 1 {
		t.Error("an instruction that has a value twice is told", len(got), "times")
	}
}

// TestValuesOfAnyFunction is promise 3: each value has one place, which tells it back, and each place at most one value.
func TestValuesOfAnyFunction(t *testing.T) {
	for n, f := range manyFuncs() {
		types, places := wantValues(f)
		if got := impl.ValueTypes(f); !alike(got, types) {
			t.Fatal("function", n, "ValueTypes", got, "not", types)
		}
		for value := int64(-2); value < int64(len(types))+3; value++ {
			want := impl.Place{Block: -1, At: -1}
			if value >= 0 && value < int64(len(types)) {
				want = places[value]
			}
			if got := impl.DefinedAt(f, value); got != want {
				t.Fatal("function", n, "DefinedAt", value, "gives", got, "not", want)
			}
			if want.Block >= 0 && impl.ResultOf(f, want.Block, want.At) != value {
				t.Fatal("function", n, "value", value, "is not what its place defines")
			}
			if got, want := impl.UsesOf(f, value), wantUses(f, value); !alike(got, want) {
				t.Fatal("function", n, "UsesOf", value, "gives", got, "not", want)
			}
		}
		checkPlaces(t, n, f)
	}
}

func checkPlaces(t *testing.T, n int, f impl.Func) {
	next := int64(len(f.Params))
	for b := int64(-1); b <= int64(len(f.Blocks)); b++ {
		count := int64(0)
		if b >= 0 && b < int64(len(f.Blocks)) {
			count = int64(len(f.Blocks[b].Instrs))
		}
		for at := int64(-1); at <= count; at++ {
			want := int64(-1)
			if at >= 0 && at < count && f.Blocks[b].Instrs[at].Type != 0 {
				want = next
				next++
			}
			if got := impl.ResultOf(f, b, at); got != want {
				t.Fatal("function", n, "ResultOf", b, at, "gives", got, "not", want)
			}
		}
	}
}

func TestRightShapes(t *testing.T) {
	most := impl.Module{}
	for n := range impl.MaxFuncs {
		name := string(rune('a' + n))
		most.Globals = append(most.Globals, impl.Global{Name: "g" + name, Link: impl.LinkWeak, Size: 256, Bytes: make([]byte, 256)})
		f := sumFunc()
		f.Name = strings.Repeat(name, impl.MaxName)
		most.Funcs = append(most.Funcs, f)
	}
	for n, m := range []impl.Module{{}, fullModule(), ofFuncs(sumFunc()), ofFuncs(longFunc(256)), ofFuncs(wideFunc(40)), most} {
		if got := impl.ShapeFault(m); got != (impl.Fault{}) || wantFault(m) != got {
			t.Error("module", n, "has the fault", got, wantFault(m))
		}
	}
}

// longFunc has so many instructions, most of them in one block.
func longFunc(count int) impl.Func {
	f := function("long", 0, block())
	for range count - 2 {
		f.Blocks[0].Instrs = append(f.Blocks[0].Instrs, ins(impl.OpPrint, 0, wordArg(64, 1)))
	}
	f.Blocks[0].Instrs = append(f.Blocks[0].Instrs, jump(1))
	f.Blocks = append(f.Blocks, block(trap()))
	return f
}

// wideFunc has so many blocks.
func wideFunc(count int) impl.Func {
	f := function("wide", 0)
	for range count {
		f.Blocks = append(f.Blocks, block(jump(int64(count)-1)))
	}
	return f
}

// frameFunc has allocas of these sizes.
func frameFunc(sizes ...int64) impl.Func {
	f := function("frame", 0, block())
	for _, size := range sizes {
		f.Blocks[0].Instrs = append(f.Blocks[0].Instrs, alloca(size))
	}
	f.Blocks[0].Instrs = append(f.Blocks[0].Instrs, ret())
	return f
}

// turn is a change of a module, and the fault that it then must have.
type turn struct {
	name string
	do   func(m *impl.Module)
	want impl.Fault
}

func checkTurns(t *testing.T, list []turn) {
	t.Helper()
	for _, c := range list {
		m := fullModule()
		c.do(&m)
		if want := wantFault(m); want != c.want {
			t.Error("the test's own fault of", c.name, "is", want)
		}
		if got := impl.ShapeFault(m); got != c.want {
			t.Error(c.name, "gives", got, "not", c.want)
		}
		checkPure(t, "ShapeFault", m, impl.ShapeFault)
	}
}

func headTurn(name string, fn int64, do func(f *impl.Func)) turn {
	return turn{name, func(m *impl.Module) { do(&m.Funcs[fn]) }, impl.Fault{Code: 3, Func: fn, Block: -1, At: -1}}
}

func globalTurn(name string, at int64, do func(g *impl.Global)) turn {
	return turn{name, func(m *impl.Module) { do(&m.Globals[at]) }, impl.Fault{Code: 2, Func: -1, Block: -1, At: at}}
}

func TestFaultsOfModulesAndGlobals(t *testing.T) {
	count := impl.Fault{Code: 1, Func: -1, Block: -1, At: -1}
	list := []turn{
		{"13 globals", func(m *impl.Module) { m.Globals = make([]impl.Global, 13) }, count},
		{"13 functions", func(m *impl.Module) { m.Funcs = make([]impl.Func, 13) }, count},
		{"100000 of both", func(m *impl.Module) { m.Globals, m.Funcs = make([]impl.Global, 100000), make([]impl.Func, 100000) }, count},
		{"12 empty globals", func(m *impl.Module) { m.Globals = make([]impl.Global, 12) }, impl.Fault{Code: 2, Func: -1, Block: -1}},
		{"12 empty functions", func(m *impl.Module) { m.Globals, m.Funcs = nil, make([]impl.Func, 12) }, impl.Fault{Code: 3, Block: -1, At: -1}},
		{"a global after a function", func(m *impl.Module) { m.Funcs[0].Name = "far"; m.Globals[3].Size = 0 }, impl.Fault{Code: 2, Func: -1, Block: -1, At: 3}},
		globalTurn("no name", 2, func(g *impl.Global) { g.Name = "" }),
		globalTurn("a long name", 2, func(g *impl.Global) { g.Name = strings.Repeat("g", 25) }),
		globalTurn("a name with a digit ahead", 2, func(g *impl.Global) { g.Name = "1g" }),
		globalTurn("the name of one ahead", 2, func(g *impl.Global) { g.Name = "table" }),
		globalTurn("the name of one behind", 3, func(g *impl.Global) { g.Name = "far" }),
		globalTurn("the link -1", 0, func(g *impl.Global) { g.Link = -1 }),
		globalTurn("the link 4", 0, func(g *impl.Global) { g.Link = 4 }),
		globalTurn("the size 0", 3, func(g *impl.Global) { g.Size = 0 }),
		globalTurn("the size -1", 3, func(g *impl.Global) { g.Size = -1 << 63 }),
		globalTurn("the size 257", 3, func(g *impl.Global) { g.Size = 257 }),
		globalTurn("too many bytes", 0, func(g *impl.Global) { g.Size = 3 }),
		globalTurn("more bytes than any", 0, func(g *impl.Global) { g.Size, g.Bytes = 256, make([]byte, 257) }),
		globalTurn("extern with bytes", 1, func(g *impl.Global) { g.Bytes = []byte{0} }),
	}
	checkTurns(t, list)
}

func TestFaultsOfHeads(t *testing.T) {
	checkTurns(t, []turn{
		headTurn("no name", fullEvery, func(f *impl.Func) { f.Name = "" }),
		headTurn("a long name", fullEvery, func(f *impl.Func) { f.Name = strings.Repeat("f", 25) }),
		headTurn("a blank", fullEvery, func(f *impl.Func) { f.Name = "a b" }),
		headTurn("the name of a global", fullTell, func(f *impl.Func) { f.Name = "spare" }),
		headTurn("the name of a local global", fullHelp, func(f *impl.Func) { f.Name = "own.g" }),
		headTurn("the name of one ahead", fullWeak, func(f *impl.Func) { f.Name = "help" }),
		headTurn("the link -1", fullOwn, func(f *impl.Func) { f.Link = -1 }),
		headTurn("the link 4", fullOwn, func(f *impl.Func) { f.Link = 4 }),
		headTurn("seven parameters", fullOwn, func(f *impl.Func) { f.Params = append(f.Params, 64) }),
		headTurn("a parameter of no type", fullOwn, func(f *impl.Func) { f.Params[5] = 0 }),
		headTurn("a parameter of a strange type", fullHelp, func(f *impl.Func) { f.Params[0] = 63 }),
		headTurn("a strange result", fullOwn, func(f *impl.Func) { f.Result = 66 }),
		headTurn("a result below 0", fullTell, func(f *impl.Func) { f.Result = -1 }),
		headTurn("extern with a block", fullTell, func(f *impl.Func) { f.Blocks = []impl.Block{block(ret())} }),
		headTurn("extern with an empty block", fullTell, func(f *impl.Func) { f.Blocks = []impl.Block{{}} }),
		headTurn("strong without blocks", fullEvery, func(f *impl.Func) { f.Blocks = nil }),
		headTurn("weak without blocks", fullWeak, func(f *impl.Func) { f.Blocks = []impl.Block{} }),
		headTurn("local without blocks", fullOwn, func(f *impl.Func) { f.Blocks = nil }),
		headTurn("41 blocks", fullOwn, func(f *impl.Func) { f.Blocks = wideFunc(41).Blocks }),
		headTurn("257 instructions", fullOwn, func(f *impl.Func) { f.Blocks = longFunc(257).Blocks }),
		headTurn("100000 blocks of none", fullOwn, func(f *impl.Func) { f.Blocks = make([]impl.Block, 100000) }),
		headTurn("a frame of 513", fullOwn, func(f *impl.Func) { f.Blocks = frameFunc(256, 256, 1).Blocks }),
		headTurn("an alloca above the frame", fullOwn, func(f *impl.Func) { f.Blocks = frameFunc(513).Blocks }),
		headTurn("sizes whose sum wraps", fullOwn, func(f *impl.Func) { f.Blocks = frameFunc(1<<63-1, 1<<63-1, 2).Blocks }),
		headTurn("a frame with a size below 0", fullOwn, func(f *impl.Func) { f.Blocks = frameFunc(-1<<63, 256, 257).Blocks }),
		headTurn("a frame in two blocks", fullOwn, func(f *impl.Func) {
			f.Blocks = append(frameFunc(256, 256).Blocks, frameFunc(1).Blocks...)
		}),
	})
}

func TestBoundsThatHold(t *testing.T) {
	checkTurns(t, []turn{
		{"a frame of 512", func(m *impl.Module) { m.Funcs[fullOwn].Blocks = frameFunc(256, 255, 1).Blocks }, impl.Fault{}},
		{"a name of 24 bytes", func(m *impl.Module) { m.Funcs[fullOwn].Name = strings.Repeat("$", 24) }, impl.Fault{}},
		{"256 instructions", func(m *impl.Module) { m.Funcs[fullOwn].Blocks = longFunc(256).Blocks }, impl.Fault{}},
		{"40 blocks", func(m *impl.Module) { m.Funcs[fullOwn].Blocks = wideFunc(40).Blocks }, impl.Fault{}},
		{"no bytes", func(m *impl.Module) { m.Globals[0].Bytes = []byte{} }, impl.Fault{}},
		{"as many bytes", func(m *impl.Module) { m.Globals[3].Bytes = make([]byte, 256) }, impl.Fault{}},
		{"a fixed extern one", func(m *impl.Module) { m.Globals[1].Fixed = true }, impl.Fault{}},
		{"a local name of a module", func(m *impl.Module) { m.Globals[3].Name = "own$0" }, impl.Fault{}},
		{"12 cases", func(m *impl.Module) { setCases(m, 12) }, impl.Fault{}},
		{"13 cases", func(m *impl.Module) { setCases(m, 13) }, impl.Fault{Code: 6, Func: fullEvery, Block: 1}},
		{"no cases", func(m *impl.Module) { setCases(m, 0) }, impl.Fault{}},
		{"a size of 0 is no head's fault", func(m *impl.Module) { m.Funcs[fullOwn].Blocks = frameFunc(256, 0, 256).Blocks }, impl.Fault{Code: 6, Func: fullOwn, At: 1}},
		{"a size below 0 is no head's fault", func(m *impl.Module) { m.Funcs[fullOwn].Blocks = frameFunc(-1<<63, 512).Blocks }, impl.Fault{Code: 6, Func: fullOwn}},
		{"one above the object", func(m *impl.Module) { m.Funcs[fullOwn].Blocks = frameFunc(257).Blocks }, impl.Fault{Code: 6, Func: fullOwn}},
	})
}

// setCases gives the switch on a byte so many words.
func setCases(m *impl.Module, count int) {
	i := &m.Funcs[fullEvery].Blocks[1].Instrs[0]
	i.Words, i.Blocks = nil, []int64{2}
	for n := range count {
		i.Words, i.Blocks = append(i.Words, uint64(n*20)), append(i.Blocks, 3)
	}
}
