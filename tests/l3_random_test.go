package tests

import (
	"strings"
	"testing"

	"loop.example/g00010/impl"
)

var allTypes = []int64{1, 8, 16, 32, 64, impl.TypePtr}

// namesToDraw are names that look like the words of a text, and others.
var namesToDraw = []string{
	"global", "func", "fixed", "extern", "strong", "weak", "local", "void", "i1", "i64", "ptr", "null", "poison", "to", "trap", "call", "nuw", "eq",
	"_", ".", "$", "a", "A", "a0", "x.1$2", "$$$", "_0123456789", "abcdefghijklmnopqrstuvwx", "......................_9", "Z$", "deadbeef", "e1",
}

// shaper makes modules in the right shape, of every kind of thing that the document's table has.
type shaper struct {
	*sequence
	names []string
	m     impl.Module
	types []int64
	bars  func(value int64) bool // which values are no arguments; none are barred if it is nil
	busy  bool                   // with memory and calls
}

func (s *shaper) oneOf(list ...int64) int64 {
	return list[s.below(len(list))]
}

func (s *shaper) name() string {
	at := s.below(len(s.names))
	name := s.names[at]
	s.names = append(append([]string{}, s.names[:at]...), s.names[at+1:]...)
	return name
}

func shapedModule(numbers *sequence) impl.Module {
	return drawModule(numbers, (*shaper).body)
}

func drawModule(numbers *sequence, body func(s *shaper, f *impl.Func)) impl.Module {
	s := shaper{sequence: numbers, names: namesToDraw}
	s.heads()
	for at := range s.m.Funcs {
		if s.m.Funcs[at].Link != impl.LinkExtern {
			body(&s, &s.m.Funcs[at])
		}
	}
	return s.m
}

// heads draws the globals, and functions without blocks.
func (s *shaper) heads() {
	for range s.below(impl.MaxGlobals + 1) {
		g := impl.Global{Name: s.name(), Link: int64(s.below(4)), Fixed: s.below(2) == 0, Size: s.oneOf(1, 2, 9, 10, 255, 256)}
		if count := s.below(4); g.Link != impl.LinkExtern && count > 0 {
			for range min(g.Size, s.oneOf(1, 2, 16, 256)) {
				g.Bytes = append(g.Bytes, byte(s.next()))
			}
		}
		s.m.Globals = append(s.m.Globals, g)
	}
	for range s.below(impl.MaxFuncs / 2) {
		f := impl.Func{Name: s.name(), Link: int64(s.below(4)), Result: s.oneOf(0, 1, 8, 16, 32, 64, impl.TypePtr)}
		for range s.below(impl.MaxParams + 1) {
			f.Params = append(f.Params, s.oneOf(allTypes...))
		}
		s.m.Funcs = append(s.m.Funcs, f)
	}
}

// body draws operations and types first, so that arguments may be values of all places.
func (s *shaper) body(f *impl.Func) {
	f.Blocks = make([]impl.Block, 1+s.below(5))
	room := int64(impl.MaxFrame)
	for b := range f.Blocks {
		var list []impl.Instr
		for range s.below(3) {
			list = append(list, impl.Instr{Op: impl.OpPhi, Type: s.oneOf(allTypes...)})
		}
		list = append(list, s.middle(b, &room)...)
		f.Blocks[b].Instrs = append(list, impl.Instr{Op: impl.OpJump + int64(s.below(5))})
	}
	s.types, _ = wantValues(*f)
	for b := range f.Blocks {
		for at := range f.Blocks[b].Instrs {
			s.fill(*f, &f.Blocks[b].Instrs[at])
		}
	}
}

// middle is what stands between the phis of a block and its end, without arguments.
func (s *shaper) middle(b int, room *int64) []impl.Instr {
	var list []impl.Instr
	for range s.below(7) {
		i := s.head()
		if i.Op == impl.OpAlloca && (b > 0 || i.Size > *room) {
			continue
		}
		*room -= i.Size
		list = append(list, i)
	}
	return list
}

// head is an instruction without arguments that is no phi and no end.
func (s *shaper) head() impl.Instr {
	op := 1 + int64(s.below(25))
	if s.busy && s.below(3) == 0 {
		op = s.oneOf(impl.OpLoad, impl.OpStore, impl.OpOffset, impl.OpCall)
	}
	i := impl.Instr{Op: op, Type: s.oneOf(allTypes...)}
	switch op {
	case impl.OpCompare:
		i.Type, i.Pred = 1, 1+int64(s.below(10))
	case impl.OpZExt, impl.OpSExt:
		i.Type = s.oneOf(8, 16, 32, 64)
	case impl.OpTrunc:
		i.Type = s.oneOf(1, 8, 16, 32)
	case impl.OpAlloca:
		i.Type, i.Size = impl.TypePtr, s.oneOf(1, 9, 10, 256)
	case impl.OpStore, impl.OpPrint:
		i.Type = 0
	case impl.OpOffset:
		i.Type = impl.TypePtr
	case impl.OpCall:
		i.Callee = int64(s.below(len(s.m.Funcs)))
		i.Type = s.m.Funcs[i.Callee].Result
	case impl.OpSelect, impl.OpLoad:
	case 19, 20:
		return impl.Instr{Op: impl.OpPrint}
	default:
		i.Type, i.Flags = s.oneOf(widths...), int64(s.below(4))
		if table[op].flags == 4 {
			i.Flags = i.Flags / 2 * 4
		}
		i.Flags &= table[op].flags
	}
	return i
}

func (s *shaper) fill(f impl.Func, i *impl.Instr) {
	wide := s.oneOf(widths...)
	switch i.Op {
	case impl.OpCompare:
		if i.Pred <= impl.PredNe {
			wide = s.oneOf(allTypes...)
		}
		s.give(i, wide, wide)
	case impl.OpSelect:
		s.give(i, 1, i.Type, i.Type)
	case impl.OpZExt, impl.OpSExt:
		s.give(i, s.beside(i.Type, -1))
	case impl.OpTrunc:
		s.give(i, s.beside(i.Type, 1))
	case impl.OpPhi:
		for range 1 + s.below(4) {
			s.give(i, i.Type)
			s.goTo(f, i, 1)
		}
	case impl.OpLoad:
		s.give(i, impl.TypePtr)
	case impl.OpStore:
		s.give(i, s.oneOf(allTypes...), impl.TypePtr)
	case impl.OpOffset:
		s.give(i, impl.TypePtr, 64)
	case impl.OpCall:
		s.give(i, s.m.Funcs[i.Callee].Params...)
	case impl.OpPrint:
		s.give(i, 64)
	case impl.OpJump:
		s.goTo(f, i, 1)
	case impl.OpBranch:
		s.give(i, 1)
		s.goTo(f, i, 2)
	case impl.OpSwitch:
		s.give(i, wide)
		i.Words = s.differentWords(wide)
		s.goTo(f, i, len(i.Words)+1)
	case impl.OpReturn:
		if f.Result != 0 {
			s.give(i, f.Result)
		}
	case impl.OpAlloca, impl.OpTrap:
	default:
		s.give(i, i.Type, i.Type)
	}
}

// beside is a lesser width, or a greater one.
func (s *shaper) beside(w int64, way int) int64 {
	var list []int64
	for _, other := range widths {
		if way < 0 && other < w || way > 0 && other > w {
			list = append(list, other)
		}
	}
	return s.oneOf(list...)
}

func (s *shaper) differentWords(w int64) []uint64 {
	var out []uint64
	for range s.below(impl.MaxCases + 1) {
		out = append(out, s.word(w))
		if !differ(out) {
			out = out[:len(out)-1]
		}
	}
	return out
}

func (s *shaper) word(w int64) uint64 {
	list := edgeWords(w)
	return list[s.below(len(list))]
}

func (s *shaper) goTo(f impl.Func, i *impl.Instr, count int) {
	for range count {
		i.Blocks = append(i.Blocks, int64(s.below(len(f.Blocks))))
	}
}

func (s *shaper) give(i *impl.Instr, types ...int64) {
	for _, t := range types {
		i.Args = append(i.Args, s.operand(t))
	}
}

func (s *shaper) operand(t int64) impl.Operand {
	var values []int64
	for n, other := range s.types {
		if other == t && (s.bars == nil || !s.bars(int64(n))) {
			values = append(values, int64(n))
		}
	}
	switch kind := s.below(8); {
	case kind == 0:
		return poisonArg(t)
	case kind < 5 && len(values) > 0:
		return valueArg(t, s.oneOf(values...))
	case t != impl.TypePtr:
		return wordArg(t, s.word(t))
	case kind < 7 && len(s.m.Globals) > 0:
		return globalArg(int64(s.below(len(s.m.Globals))))
	}
	return nullArg()
}

// checkRoundTrip holds a module in the right shape to promise 5.
func checkRoundTrip(t *testing.T, m impl.Module) {
	t.Helper()
	want := wantText(m)
	if got := impl.FormatModule(m); got != want {
		t.Fatalf("FormatModule gives\n%.3000s\nnot\n%.3000s", got, want)
	}
	r := impl.ParseModule(want)
	if r.Good != (want != "" && len(want) <= impl.MaxText) {
		t.Fatalf("ParseModule gives %v of\n%.3000s", r.Good, want)
	}
	if r.Good && !alike(r.Module, m) {
		t.Fatalf("ParseModule gives another module of\n%.3000s", want)
	}
	if !r.Good && !alike(r, impl.ReadResult{}) {
		t.Fatal("a module beside what is not good:", r.Module)
	}
}

func checkInstrs(t *testing.T, m impl.Module) {
	t.Helper()
	for fn := int64(-1); fn <= int64(len(m.Funcs)); fn++ {
		var lines [][]string
		if fn >= 0 && fn < int64(len(m.Funcs)) {
			lines = wantLines(m, m.Funcs[fn])
		}
		for b := int64(-1); b <= int64(len(lines)); b++ {
			count := int64(0)
			if b >= 0 && b < int64(len(lines)) {
				count = int64(len(lines[b]))
			}
			for at := int64(-1); at <= count; at++ {
				want := ""
				if at >= 0 && at < count {
					want = lines[b][at]
				}
				if got := impl.FormatInstr(m, fn, b, at); got != want {
					t.Fatalf("FormatInstr %d %d %d gives %q, not %q", fn, b, at, got, want)
				}
			}
		}
	}
}

// TestManyModulesAreReadBack is promise 5: each module in the right shape comes back from its text.
func TestManyModulesAreReadBack(t *testing.T) {
	t.Parallel()
	s := sequence(11)
	words := map[string]int{}
	for n := range 4000 {
		m := shapedModule(&s)
		if fault := wantFault(m); fault != (impl.Fault{}) {
			t.Fatalf("the test's module %d has the fault %v: %+v", n, fault, m)
		}
		checkRoundTrip(t, m)
		if n%20 == 0 {
			checkInstrs(t, m)
		}
		for _, word := range strings.FieldsFunc(wantText(m), func(r rune) bool { return strings.ContainsRune(" ()[],:\n", r) }) {
			words[word]++
		}
	}
	for _, names := range []map[int64]string{nameOfOp, nameOfPred, nameOfType, {0: "nuw", 1: "nsw", 2: "exact", 3: "null", 4: "poison", 5: "fixed", 6: "extern", 7: "strong", 8: "weak", 9: "local"}} {
		for _, name := range names {
			if words[name] < 100 {
				t.Error("the modules have", name, words[name], "times")
			}
		}
	}
}

// TestTurnedModulesHaveATextOrNone: what has the wrong shape has no text, and what has another shape has another text.
func TestTurnedModulesHaveATextOrNone(t *testing.T) {
	t.Parallel()
	s := sequence(12)
	texts, count := map[string]impl.Module{}, 0
	for n := range 6000 {
		m := fullModule()
		if n%2 == 0 {
			m = shapedModule(&s)
		}
		for range 1 + s.below(3) {
			turnSomething(&s, &m)
		}
		if wantFault(m) == (impl.Fault{}) {
			count++
			checkRoundTrip(t, m)
			text := impl.FormatModule(m)
			if other, known := texts[text]; known && !alike(other, m) {
				t.Fatalf("two modules have one text: %+v, %+v", m, other)
			}
			texts[text] = m
			continue
		}
		if got := impl.FormatModule(m); got != "" {
			t.Fatalf("a module of the wrong shape has the text\n%s", got)
		}
		if len(m.Funcs) > 0 && impl.FormatInstr(m, int64(len(m.Funcs)-1), 0, 0) != "" {
			t.Fatalf("an instruction of a module of the wrong shape has a text: %+v", m)
		}
	}
	if count < 500 {
		t.Error("only", count, "modules kept their shape")
	}
}

// checkRead holds what is read of a text against the other reader.
func checkRead(t *testing.T, text string) bool {
	t.Helper()
	got, want := impl.ParseModule(text), wantRead(text)
	if got.Good != want.Good || !alike(got.Module, want.Module) {
		t.Fatalf("ParseModule gives %+v, not %+v, of\n%s", got, want, text)
	}
	if got.Good && impl.FormatModule(got.Module) != text {
		t.Fatalf("what was read has another text than\n%s", text)
	}
	return got.Good
}

// bentText changes a text at one place, or some lines or words of it.
func bentText(s *sequence, text string) string {
	const bytesToPut = " \n\t,:=()[]{}%@-+_.$0123456789abcdefABCDEFxgzi\x00\x80\xc3\xff"
	at := s.below(len(text))
	put := string(bytesToPut[s.below(len(bytesToPut))])
	switch s.below(8) {
	case 0:
		return text[:at] + put + text[at+1:]
	case 1:
		return text[:at] + text[at+1:]
	case 2:
		return text[:at] + put + text[at:]
	case 3:
		return text[:at]
	case 4:
		return bentList(s, text, "\n")
	case 5:
		return bentList(s, text, ",")
	}
	return bentList(s, text, " ")
}

// bentList leaves one piece out, has one twice, puts one in another's place, or changes two.
func bentList(s *sequence, text, between string) string {
	list := strings.Split(text, between)
	a, b := s.below(len(list)), s.below(len(list))
	switch s.below(4) {
	case 0:
		list = append(list[:a:a], list[a+1:]...)
	case 1:
		list = append(list[:a+1:a+1], list[a:]...)
	case 2:
		list[a] = list[b]
	default:
		list[a], list[b] = list[b], list[a]
	}
	return strings.Join(list, between)
}

// TestBentTexts holds the reader against another one at texts of which few are a module's.
func TestBentTexts(t *testing.T) {
	t.Parallel()
	s := sequence(13)
	goods, count := 0, 0
	for range 2500 {
		text := wantText(shapedModule(&s))
		if len(text) == 0 || len(text) > 6000 {
			continue
		}
		for range 12 {
			bent := bentText(&s, text)
			if s.below(4) == 0 && bent != "" {
				bent = bentText(&s, bent)
			}
			if count++; checkRead(t, bent) && bent != text {
				goods++
			}
		}
	}
	if goods < 300 || goods > count/3 {
		t.Error(goods, "of", count, "bent texts are a module's")
	}
}

// TestTextsAreLeftAlone is promise 1 for the functions of the chapter.
func TestTextsAreLeftAlone(t *testing.T) {
	s := sequence(14)
	for n := range 300 {
		m := shapedModule(&s)
		text := wantText(m)
		if n%3 == 0 {
			turnSomething(&s, &m)
		}
		fn, b, at := int64(s.below(5))-1, int64(s.below(4))-1, int64(s.below(6))-1
		checkPure(t, "FormatModule", m, impl.FormatModule)
		checkPure(t, "FormatInstr", m, func(m impl.Module) string { return impl.FormatInstr(m, fn, b, at) })
		checkPure(t, "ParseModule", text, impl.ParseModule)
		if text != "" {
			checkPure(t, "ParseModule", bentText(&s, text), impl.ParseModule)
		}
		o := impl.Operand{Kind: int64(s.below(8)) - 1, Type: s.pickNumber(), Index: s.pickNumber(), Word: s.next()}
		checkPure(t, "FormatOperand", m, func(m impl.Module) string { return impl.FormatOperand(m, o) })
	}
	for _, n := range append(strange, 1, 8, 14, 20, 64) {
		checkPure(t, "TypeName", n, impl.TypeName)
		checkPure(t, "OpName", n, impl.OpName)
		checkPure(t, "PredName", n, impl.PredName)
	}
}

func (s *sequence) pickNumber() int64 {
	return numbersToPut[s.below(len(numbersToPut))]
}
