package tests

import (
	"strings"
	"testing"

	"loop.example/g00010/impl"
)

// fullText is that of fullModule, written by hand.
const fullText = `global @table strong fixed 4 01020304
global @far extern 8
global @spare weak 16 09
global @own.g local 256
func @help extern (i64, ptr) i64
func @tell extern (i1) void
func @every strong (i64, ptr, i8, i1) i64 {
0:
  %4 = alloca 16
  %5 = alloca 256
  %6 = add nuw nsw i64 %0, 1
  %7 = sub nsw i64 %0, %6
  %8 = mul nuw i8 %2, -1
  %9 = udiv exact i8 %2, %2
  %10 = sdiv exact i8 %2, 3
  %11 = urem i8 %2, poison
  %12 = srem i64 %0, 7
  %13 = shl nuw nsw i64 %0, 2
  %14 = lshr exact i64 %0, 2
  %15 = ashr exact i64 %0, 2
  %16 = and i1 %3, 1
  %17 = or i1 %3, %3
  %18 = xor i32 5, poison
  %19 = cmp sge i8 %2, 4
  %20 = cmp eq ptr %1, null
  %21 = cmp ne ptr %4, @spare
  %22 = select ptr %3, %1, @table
  %23 = zext i8 %2 to i16
  %24 = sext i1 %3 to i64
  %25 = trunc i64 %0 to i1
  %26 = load i32 %1
  store i32 %26, @far
  store ptr null, %4
  %27 = offset @own.g, %0
  %28 = call i64 @help(%0, %27)
  call void @tell(%3)
  %29 = call i64 @every(%0, %1, %2, %3)
  %30 = call ptr @weak()
  print %28
  branch %3, 1, 2
1:
  switch i8 %2, 2, 0: 3, -1: 4, 7: 3
2:
  %31 = phi i64 [%0, 0], [%29, 1]
  %32 = phi ptr [null, 0], [@far, 1]
  switch i64 %31, 5
3:
  jump 5
4:
  trap
5:
  %33 = phi i64 [%31, 2], [11, 3]
  return i64 %33
}
func @own local (i1, i8, i16, i32, i64, ptr) void {
0:
  return
}
func @weak weak () ptr {
0:
  return ptr @own.g
}
`

// exampleText is the document's example.
const exampleText = `global @table strong fixed 4 01020304
func @pick local (i64) i8 {
0:
  %1 = cmp ult i64 %0, 4
  branch %1, 1, 2
1:
  %2 = offset @table, %0
  %3 = load i8 %2
  return i8 %3
2:
  return i8 0
}
func @main strong () i64 {
0:
  jump 1
1:
  %0 = phi i64 [0, 0], [%5, 1]
  %1 = phi i64 [0, 0], [%4, 1]
  %2 = call i8 @pick(%0)
  %3 = zext i8 %2 to i64
  %4 = add i64 %1, %3
  %5 = add i64 %0, 1
  %6 = cmp ult i64 %5, 6
  branch %6, 1, 2
2:
  print %4
  return i64 %4
}
`

func exampleModule() impl.Module {
	pick := impl.Func{Name: "pick", Link: impl.LinkLocal, Params: []int64{64}, Result: 8, Blocks: []impl.Block{
		block(compare(impl.PredULt, valueArg(64, 0), wordArg(64, 4)), branch(valueArg(1, 1), 1, 2)),
		block(ins(impl.OpOffset, impl.TypePtr, globalArg(0), valueArg(64, 0)), ins(impl.OpLoad, 8, valueArg(impl.TypePtr, 2)), ret(valueArg(8, 3))),
		block(ret(wordArg(8, 0))),
	}}
	start := function("main", 64, block(jump(1)),
		block(phi(64, []int64{0, 1}, wordArg(64, 0), valueArg(64, 5)), phi(64, []int64{0, 1}, wordArg(64, 0), valueArg(64, 4)),
			call(0, 8, valueArg(64, 0)), ins(impl.OpZExt, 64, valueArg(8, 2)), ins(impl.OpAdd, 64, valueArg(64, 1), valueArg(64, 3)),
			ins(impl.OpAdd, 64, valueArg(64, 0), wordArg(64, 1)), compare(impl.PredULt, valueArg(64, 5), wordArg(64, 6)), branch(valueArg(1, 6), 1, 2)),
		block(ins(impl.OpPrint, 0, valueArg(64, 4)), ret(valueArg(64, 4))))
	return impl.Module{
		Globals: []impl.Global{{Name: "table", Link: impl.LinkStrong, Fixed: true, Size: 4, Bytes: []byte{1, 2, 3, 4}}},
		Funcs:   []impl.Func{pick, start},
	}
}

func checkNames(t *testing.T, what string, ask func(int64) string, names map[int64]string) {
	t.Helper()
	check := func(n int64) {
		if got := ask(n); got != names[n] {
			t.Errorf("%s %d gives %q, not %q", what, n, got, names[n])
		}
	}
	for n := int64(-300); n <= 300; n++ {
		check(n)
	}
	for _, n := range append([]int64{1<<32 + 1, 1<<32 + 64, 1<<62 + 14, -1 << 32}, strange...) {
		check(n)
	}
}

func TestNamesOfNumbers(t *testing.T) {
	checkNames(t, "TypeName", impl.TypeName, nameOfType)
	checkNames(t, "OpName", impl.OpName, nameOfOp)
	checkNames(t, "PredName", impl.PredName, nameOfPred)
	for _, names := range []map[int64]string{nameOfType, nameOfOp, nameOfPred} {
		seen := map[string]bool{}
		for _, name := range names {
			if seen[name] {
				t.Error("two have the name", name)
			}
			seen[name] = true
		}
	}
	if impl.MaxText != 200000 {
		t.Error("MaxText", impl.MaxText)
	}
}

func TestFormatOperand(t *testing.T) {
	m := fullModule()
	odd := ofGlobals(impl.Global{}, impl.Global{Name: "a b"})
	odd.Globals = append(odd.Globals, make([]impl.Global, 20)...)
	odd.Globals[21].Name = "last"
	for _, c := range []struct {
		m    impl.Module
		o    impl.Operand
		want string
	}{
		{m, wordArg(1, 0), "0"}, {m, wordArg(1, 1), "1"}, {m, wordArg(1, 2), ""},
		{m, wordArg(8, 127), "127"}, {m, wordArg(8, 128), "-128"}, {m, wordArg(8, 255), "-1"}, {m, wordArg(8, 256), ""},
		{m, wordArg(16, 65535), "-1"}, {m, wordArg(32, 1<<31), "-2147483648"}, {m, wordArg(32, 1<<32), ""},
		{m, wordArg(64, 1<<63), "-9223372036854775808"}, {m, wordArg(64, 1<<63-1), "9223372036854775807"}, {m, wordArg(64, 1<<64-1), "-1"},
		{m, wordArg(0, 0), ""}, {m, wordArg(impl.TypePtr, 0), ""}, {m, wordArg(7, 1), ""}, {m, wordArg(-1, 1), ""},
		{m, nullArg(), "null"}, {m, poisonArg(8), "poison"}, {m, poisonArg(impl.TypePtr), "poison"},
		{m, valueArg(64, 0), "%0"}, {m, valueArg(1, 7), "%7"}, {m, valueArg(8, 1000000), "%1000000"}, {m, valueArg(8, 1<<63-1), "%9223372036854775807"},
		{impl.Module{}, valueArg(8, 12), "%12"}, {impl.Module{}, nullArg(), "null"}, {impl.Module{}, poisonArg(1), "poison"}, {impl.Module{}, wordArg(8, 200), "-56"},
		{m, globalArg(0), "@table"}, {m, globalArg(3), "@own.g"}, {m, globalArg(4), ""}, {m, globalArg(-1), ""}, {m, globalArg(1<<63 - 1), ""}, {m, globalArg(-1 << 63), ""},
		{impl.Module{}, globalArg(0), ""}, {odd, globalArg(0), "@"}, {odd, globalArg(1), "@a b"}, {odd, globalArg(21), "@last"},
		{m, impl.Operand{}, ""}, {m, impl.Operand{Kind: 6, Type: 64}, ""}, {m, impl.Operand{Kind: -1, Type: 64}, ""}, {m, impl.Operand{Kind: 1 << 62, Type: 8, Word: 1}, ""}, {m, impl.Operand{Kind: 1<<32 + 2}, ""},
	} {
		if got := impl.FormatOperand(c.m, c.o); got != c.want {
			t.Errorf("FormatOperand %+v gives %q, not %q", c.o, got, c.want)
		}
	}
}

func TestTextsByHand(t *testing.T) {
	loop := "func @sum strong (i64) i64 {\n0:\n  jump 1\n1:\n  %1 = phi i64 [0, 0], [%5, 2]\n  %2 = phi i64 [0, 0], [%4, 2]\n  %3 = cmp ult i64 %1, %0\n  branch %3, 2, 3\n2:\n  %4 = add i64 %2, %1\n  %5 = add i64 %1, 1\n  jump 1\n3:\n  return i64 %2\n}\n"
	for text, m := range map[string]impl.Module{fullText: fullModule(), exampleText: exampleModule(), loop: ofFuncs(sumFunc())} {
		if got := impl.FormatModule(m); got != text {
			t.Errorf("FormatModule gives\n%s\nnot\n%s", got, text)
		}
		if got := impl.ParseModule(text); !got.Good || !alike(got.Module, m) {
			t.Errorf("ParseModule gives %+v of\n%s", got, text)
		}
		checkRoundTrip(t, m)
		checkInstrs(t, m)
	}
}

// aloneIn is the text of a function with two parameters in which one instruction stands, with an end behind it if it is none.
func aloneIn(t *testing.T, i impl.Instr) string {
	t.Helper()
	m := fullModule()
	list := []impl.Instr{i}
	if !impl.IsEnd(i.Op) {
		list = append(list, trap())
	}
	m.Funcs[fullOwn] = impl.Func{Name: "own", Link: impl.LinkLocal, Params: []int64{64, impl.TypePtr}, Blocks: []impl.Block{{Instrs: list}, block(trap())}}
	if fault := wantFault(m); fault != (impl.Fault{}) {
		t.Error("the test's module has the fault", fault, "with", i)
	}
	checkRoundTrip(t, m)
	return impl.FormatInstr(m, fullOwn, 0, 0)
}

func TestLinesOfEachKind(t *testing.T) {
	n, p := valueArg(64, 0), valueArg(impl.TypePtr, 1)
	one := wordArg(64, 1)
	cases := make([]uint64, impl.MaxCases)
	for at := range cases {
		cases[at] = uint64(at) << 60
	}
	goals := []int64{1, 0, 1, 1, 0, 0, 1, 1, 1, 0, 0, 0, 1}
	for want, i := range map[string]impl.Instr{
		"%2 = add i64 %0, 1":                       ins(impl.OpAdd, 64, n, one),
		"%2 = add nuw i64 %0, 1":                   withFlags(ins(impl.OpAdd, 64, n, one), impl.FlagNUW),
		"%2 = sub nsw i64 %0, 1":                   withFlags(ins(impl.OpSub, 64, n, one), impl.FlagNSW),
		"%2 = mul nuw nsw i64 %0, 1":               withFlags(ins(impl.OpMul, 64, n, one), impl.FlagNUW+impl.FlagNSW),
		"%2 = shl nuw nsw i16 poison, -32768":      withFlags(ins(impl.OpShl, 16, poisonArg(16), wordArg(16, 1<<15)), impl.FlagNUW+impl.FlagNSW),
		"%2 = udiv i64 %0, 1":                      ins(impl.OpUDiv, 64, n, one),
		"%2 = sdiv exact i1 1, 0":                  withFlags(ins(impl.OpSDiv, 1, wordArg(1, 1), wordArg(1, 0)), impl.FlagExact),
		"%2 = xor i64 %2, %2":                      ins(impl.OpXor, 64, valueArg(64, 2), valueArg(64, 2)),
		"%2 = cmp eq i1 0, 1":                      compare(impl.PredEq, wordArg(1, 0), wordArg(1, 1)),
		"%2 = cmp ne ptr null, @table":             compare(impl.PredNe, nullArg(), globalArg(0)),
		"%2 = cmp sgt i64 %0, -1":                  compare(impl.PredSGt, n, wordArg(64, 1<<64-1)),
		"%2 = select ptr 1, %1, poison":            ins(impl.OpSelect, impl.TypePtr, wordArg(1, 1), p, poisonArg(impl.TypePtr)),
		"%2 = select i8 poison, 3, %2":             ins(impl.OpSelect, 8, poisonArg(1), wordArg(8, 3), valueArg(8, 2)),
		"%2 = zext i1 1 to i64":                    ins(impl.OpZExt, 64, wordArg(1, 1)),
		"%2 = sext i32 -1 to i64":                  ins(impl.OpSExt, 64, wordArg(32, 1<<32-1)),
		"%2 = trunc i64 %0 to i32":                 ins(impl.OpTrunc, 32, n),
		"%2 = phi i64 [%0, 0]":                     phi(64, []int64{0}, n),
		"%2 = phi ptr [%2, 1], [@far, 0], [%1, 1]": phi(impl.TypePtr, []int64{1, 0, 1}, valueArg(impl.TypePtr, 2), globalArg(1), p),
		"%2 = alloca 1":                            alloca(1),
		"%2 = alloca 256":                          alloca(256),
		"%2 = load i1 null":                        ins(impl.OpLoad, 1, nullArg()),
		"%2 = load ptr poison":                     ins(impl.OpLoad, impl.TypePtr, poisonArg(impl.TypePtr)),
		"store i8 poison, @own.g":                  ins(impl.OpStore, 0, poisonArg(8), globalArg(3)),
		"store ptr %1, %1":                         ins(impl.OpStore, 0, p, p),
		"%2 = offset %1, -9223372036854775808":     ins(impl.OpOffset, impl.TypePtr, p, wordArg(64, 1<<63)),
		"%2 = offset null, %0":                     ins(impl.OpOffset, impl.TypePtr, nullArg(), n),
		"%2 = call ptr @weak()":                    call(fullWeak, impl.TypePtr),
		"call void @tell(poison)":                  call(fullTell, 0, poisonArg(1)),
		"%2 = call i64 @help(%0, @table)":          call(fullHelp, 64, n, globalArg(0)),
		"call void @own(%0, null)":                 call(fullOwn, 0, n, nullArg()),
		"print %0":                                 ins(impl.OpPrint, 0, n),
		"print poison":                             ins(impl.OpPrint, 0, poisonArg(64)),
		"jump 1":                                   jump(1),
		"branch 0, 0, 1":                           branch(wordArg(1, 0), 0, 1),
		"switch i64 %0, 1":                         switchOn(n, nil, 1),
		"switch i1 poison, 0, 1: 1, 0: 0":          switchOn(poisonArg(1), []uint64{1, 0}, 0, 1, 0),
		"return":                                   ret(),
		"trap":                                     trap(),
		"switch i64 1, 1, 0: 0, 1152921504606846976: 1, 2305843009213693952: 1, 3458764513820540928: 0, 4611686018427387904: 0, 5764607523034234880: 1, 6917529027641081856: 1, 8070450532247928832: 1, -9223372036854775808: 0, -8070450532247928832: 0, -6917529027641081856: 0, -5764607523034234880: 1": switchOn(one, cases, goals...),
	} {
		if got := aloneIn(t, i); got != want {
			t.Errorf("FormatInstr gives %q, not %q", got, want)
		}
	}
}

func TestReturnsOfEachType(t *testing.T) {
	for _, typ := range allTypes {
		f := function("f", typ, block(ret(poisonArg(typ))))
		m := ofFuncs(f)
		if got, want := impl.FormatInstr(m, 0, 0, 0), "return "+nameOfType[typ]+" poison"; got != want {
			t.Errorf("FormatInstr gives %q, not %q", got, want)
		}
		checkRoundTrip(t, m)
	}
}

// TestGlobalsOfEachKind: with and without bytes, fixed or not, of each link; names that look like other words.
func TestGlobalsOfEachKind(t *testing.T) {
	every := make([]byte, 256)
	for n := range every {
		every[n] = byte(n)
	}
	for link, name := range nameOfLink {
		for _, fixed := range []bool{false, true} {
			for _, list := range [][]byte{nil, {}, {0}, {255, 0}, every} {
				if link == impl.LinkExtern && len(list) > 0 {
					continue
				}
				for _, size := range []int64{1, 2, 16, 255, 256} {
					if int64(len(list)) <= size {
						checkRoundTrip(t, ofGlobals(impl.Global{Name: name, Link: int64(link), Fixed: fixed, Size: size, Bytes: list}))
					}
				}
			}
		}
	}
	m := ofGlobals(impl.Global{Name: "fixed", Link: impl.LinkWeak, Size: 10, Bytes: []byte{0, 15, 240, 171}}, impl.Global{Name: "extern", Fixed: true, Size: 256})
	if got := impl.FormatModule(m); got != "global @fixed weak 10 000ff0ab\nglobal @extern extern fixed 256\n" {
		t.Errorf("FormatModule gives %q", got)
	}
}

func TestHeadsOfEachKind(t *testing.T) {
	extern := impl.Func{Name: strings.Repeat("n", impl.MaxName), Params: []int64{1, 8, 16, 32, 64, impl.TypePtr}, Result: 16}
	local := impl.Func{Name: "$", Link: impl.LinkLocal, Blocks: []impl.Block{block(trap())}}
	m := ofFuncs(impl.Func{Name: "void"}, extern, local)
	want := "func @void extern () void\nfunc @nnnnnnnnnnnnnnnnnnnnnnnn extern (i1, i8, i16, i32, i64, ptr) i16\nfunc @$ local () void {\n0:\n  trap\n}\n"
	if got := impl.FormatModule(m); got != want {
		t.Errorf("FormatModule gives %q", got)
	}
	checkRoundTrip(t, m)
	checkRoundTrip(t, ofFuncs(longFunc(256), wideFunc(40), frameFunc(256, 255, 1)))
}

// TestAModuleOfNothing has the empty text, which is not read.
func TestAModuleOfNothing(t *testing.T) {
	for _, m := range []impl.Module{{}, {Globals: []impl.Global{}, Funcs: []impl.Func{}}} {
		if got := impl.FormatModule(m); got != "" {
			t.Errorf("a module of nothing has the text %q", got)
		}
		if impl.FormatInstr(m, 0, 0, 0) != "" {
			t.Error("a module of nothing has an instruction")
		}
	}
	if got := impl.ParseModule(""); !alike(got, impl.ReadResult{}) {
		t.Error("the empty text is read as", got)
	}
}

func TestPlacesThatThereAreNot(t *testing.T) {
	m := fullModule()
	for _, p := range [][3]int64{
		{-1, 0, 0}, {5, 0, 0}, {fullHelp, 0, 0}, {fullEvery, -1, 0}, {fullEvery, 6, 0}, {fullEvery, 0, -1}, {fullEvery, 0, 32}, {fullEvery, 4, 1}, {fullOwn, 1, 0},
		{1 << 32, 0, 0}, {1<<63 - 1, 0, 0}, {-1 << 63, 0, 0}, {fullEvery, 1 << 32, 0}, {fullEvery, 1<<63 - 1, 0}, {fullEvery, -1 << 63, 0}, {fullEvery, 0, 1 << 32}, {fullEvery, 0, 1<<63 - 1}, {fullEvery, 0, -1 << 63},
	} {
		if got := impl.FormatInstr(m, p[0], p[1], p[2]); got != "" {
			t.Error("the place", p, "has the text", got)
		}
	}
}

// faultMakers bend fullModule so that it has the fault of their number.
func faultMakers() []func(m *impl.Module) {
	return []func(m *impl.Module){
		func(m *impl.Module) {},
		func(m *impl.Module) { m.Globals = make([]impl.Global, 13) },
		func(m *impl.Module) { m.Globals[1].Size = 0 },
		func(m *impl.Module) { m.Funcs[fullWeak].Name = "own" },
		func(m *impl.Module) { m.Funcs[fullEvery].Blocks[3].Instrs = nil },
		func(m *impl.Module) { m.Funcs[fullEvery].Blocks[0].Instrs[2].Op = 19 },
		func(m *impl.Module) { m.Funcs[fullEvery].Blocks[0].Instrs[2].Flags = 4 },
		func(m *impl.Module) { m.Funcs[fullEvery].Blocks[3].Instrs[0].Blocks[0] = 6 },
		func(m *impl.Module) { m.Funcs[fullWeak].Blocks[0].Instrs[0].Args[0].Index = 4 },
		func(m *impl.Module) {
			list := m.Funcs[fullEvery].Blocks[0].Instrs
			list[2] = phi(64, []int64{0}, wordArg(64, 1))
		},
	}
}

// wrongShapes are modules that each have the fault of their number; the one of 0 has none.
func wrongShapes(t *testing.T) []impl.Module {
	t.Helper()
	var out []impl.Module
	for code, bend := range faultMakers() {
		m := fullModule()
		bend(&m)
		if got := wantFault(m).Code; got != int64(code) {
			t.Error("the test's module has the fault", got, "not", code)
		}
		out = append(out, m)
	}
	return out
}

func TestWrongShapesHaveNoText(t *testing.T) {
	for code, m := range wrongShapes(t) {
		if code > 0 && (impl.FormatModule(m) != "" || impl.FormatInstr(m, fullEvery, 0, 0) != "" || impl.FormatInstr(m, fullOwn, 0, 0) != "") {
			t.Error("a module with the fault", code, "has a text")
		}
	}
}
