package tests

import (
	"slices"
	"testing"

	"loop.example/g00010/impl"
)

// livelyModule is a sound module whose runs come far: hardly anything in it is poison, null or extern, and most pointers point into an object.
func livelyModule(numbers *sequence) (impl.Module, []uint64) {
	s := shaper{sequence: numbers, names: namesToDraw, busy: true}
	s.heads()
	for at := range s.m.Globals {
		if g := &s.m.Globals[at]; s.below(12) > 0 {
			g.Link, g.Fixed, g.Size = max(g.Link, 1), s.below(6) == 0, max(g.Size, 9)
		}
	}
	entry := impl.Func{Name: "main", Link: 1 + int64(s.below(3)), Result: s.oneOf(0, 8, 64, impl.TypePtr)}
	var args []uint64
	for range s.below(4) {
		w := s.oneOf(widths...)
		entry.Params, args = append(entry.Params, w), append(args, s.word(w))
	}
	s.m.Funcs = append([]impl.Func{entry}, s.m.Funcs...)
	for at := range s.m.Funcs {
		f := &s.m.Funcs[at]
		if at > 0 && f.Link == impl.LinkExtern && s.below(4) > 0 {
			f.Link = impl.LinkLocal
		}
		if f.Link != impl.LinkExtern {
			s.soundBody(f)
			s.enliven(f)
		}
	}
	return s.m, args
}

// enliven puts other arguments and ends in the place of most of those at which a run would end.
func (s *shaper) enliven(f *impl.Func) {
	for b := range f.Blocks {
		for at := range f.Blocks[b].Instrs {
			i := &f.Blocks[b].Instrs[at]
			if i.Op == impl.OpTrap && s.below(4) > 0 {
				*i = impl.Instr{Op: impl.OpReturn}
				if f.Result != 0 {
					i.Args = []impl.Operand{poisonArg(f.Result)}
				}
			}
			for n := range i.Args {
				s.enlivenArg(f, b, at, n)
			}
		}
	}
}

func (s *shaper) enlivenArg(f *impl.Func, b, at, n int) {
	i := &f.Blocks[b].Instrs[at]
	o := &i.Args[n]
	touches := i.Op == impl.OpLoad || i.Op == impl.OpStore && n == 1
	dead := o.Kind == impl.OperandPoison || o.Kind == impl.OperandNull
	switch {
	case touches && (i.Type == impl.TypePtr || n == 1 && i.Args[0].Type == impl.TypePtr) && s.below(3) > 0:
		*o = s.common()
	case o.Type == impl.TypePtr && (dead || touches || i.Op == impl.OpOffset) && s.below(8) > 0:
		*o = s.somewhere(f, b, at)
	case i.Op == impl.OpOffset && n == 1 && s.below(4) > 0:
		*o = wordArg(64, s.next()%9)
	case i.Op >= impl.OpUDiv && i.Op <= impl.OpSRem && n == 1 && s.below(8) > 0:
		*o = wordArg(o.Type, max(1, s.word(o.Type)))
	case o.Type != impl.TypePtr && dead && s.below(8) > 0:
		*o = wordArg(o.Type, s.word(o.Type))
	}
}

// common is the global in which pointers are kept, if there is one.
func (s *shaper) common() impl.Operand {
	for n, g := range s.m.Globals {
		if g.Link != impl.LinkExtern && !g.Fixed && g.Size > 8 {
			return globalArg(int64(n))
		}
	}
	return nullArg()
}

// somewhere is a global, or what an alloca or an offset that stands ahead in the first block defines.
func (s *shaper) somewhere(f *impl.Func, b, at int) impl.Operand {
	var list []impl.Operand
	types, places := wantValues(*f)
	for n, place := range places {
		if place.Block != 0 || b == 0 && place.At >= int64(at) || types[n] != impl.TypePtr {
			continue
		}
		if op := f.Blocks[0].Instrs[place.At].Op; op == impl.OpAlloca || op == impl.OpOffset {
			list = append(list, valueArg(impl.TypePtr, int64(n)))
		}
	}
	for n, g := range s.m.Globals {
		if g.Link != impl.LinkExtern {
			list = append(list, globalArg(int64(n)))
		}
	}
	if len(list) == 0 {
		return nullArg()
	}
	return list[s.below(len(list))]
}

// drawn is an entry with its module.
type drawn struct {
	M     impl.Module
	Entry string
	Args  []uint64
	L     impl.Limits
}

func (d drawn) run() impl.Outcome {
	return impl.Run(d.M, d.Entry, d.Args, d.L)
}

func drawRun(s *sequence) drawn {
	m, args := livelyModule(s)
	return drawn{m, "main", args, impl.Limits{Steps: 1 + int64(s.below(400)), Depth: 1 + int64(s.below(16))}}
}

// loadsOf counts what the loads of a run have found: poison, pointers, and words.
func loadsOf(told *teller) (count [3]int) {
	for key, seen := range told.seen {
		f := told.m.Funcs[key[0]]
		_, places := wantValues(f)
		place := places[key[1]]
		if place.Block < 0 || f.Blocks[place.Block].Instrs[place.At].Op != impl.OpLoad {
			continue
		}
		for _, v := range seen {
			switch {
			case v.Poison:
				count[0]++
			case v.Object != 0:
				count[1]++
			default:
				count[2]++
			}
		}
	}
	return count
}

func TestRunOfManyModules(t *testing.T) {
	t.Parallel()
	s := sequence(71)
	ends, loads, prints := map[int64]int{}, [3]int{}, 0
	for n := range 3000 {
		d := drawRun(&s)
		if n%100 == 0 {
			d.L.Steps = 10000
		}
		told := checkRun(t, d.M, d.Entry, d.Args, d.L)
		ends[told.out.End]++
		prints += len(told.out.Prints)
		for at, count := range loadsOf(told) {
			loads[at] += count
		}
		if n%10 > 0 {
			continue
		}
		for fn, f := range d.M.Funcs {
			types, _ := wantValues(f)
			for value := range len(types) + 1 {
				checkWatch(t, told, d.Entry, d.Args, int64(fn), int64(value))
			}
		}
	}
	for end, least := range map[int64]int{impl.EndReturn: 500, impl.EndTrap: 80, impl.EndUndefined: 400, impl.EndSteps: 400, impl.EndDepth: 150, impl.EndPrints: 1, impl.EndMissing: 30} {
		if ends[end] < least {
			t.Error("the end", end, "came", ends[end], "times")
		}
	}
	if prints < 4000 || loads[0] < 2000 || loads[1] < 40 || loads[2] < 4000 {
		t.Error(prints, "prints", loads, "loads")
	}
}

// isBeginning: the prints of one run are the beginning of those of another one.
func isBeginning(a, b impl.Outcome) bool {
	return len(a.Prints) <= len(b.Prints) && slices.Equal(a.Prints, b.Prints[:len(a.Prints)])
}

// TestRunsTellTheSameWithMore is the first half of promise 8.
func TestRunsTellTheSameWithMore(t *testing.T) {
	t.Parallel()
	s := sequence(72)
	steps, depths := 0, 0
	for range 2000 {
		d := drawRun(&s)
		told := tellRun(d.M, d.Entry, d.Args, d.L)
		whole := d.run()
		if whole.End == impl.EndSteps || whole.End == impl.EndDepth {
			more := d
			more.L = impl.Limits{Steps: 2000, Depth: 16}
			if !isBeginning(whole, more.run()) {
				t.Fatal("what ends for want of more has printed no beginning")
			}
			continue
		}
		for _, l := range []impl.Limits{{Steps: 1000000, Depth: 16}, {Steps: max(whole.Steps, 1), Depth: d.L.Depth}, {Steps: whole.Steps + 1, Depth: told.deepest}, {Steps: max(whole.Steps, 1), Depth: told.deepest}} {
			d.L = l
			if got := d.run(); !alike(got, whole) {
				t.Fatalf("within %v Run gives\n%v, and within less\n%v:\n%s", l, got, whole, impl.FormatModule(d.M))
			}
		}
		for k := whole.Steps - 1; k > 0; k -= 1 + int64(s.below(8)) {
			d.L = impl.Limits{Steps: k, Depth: 16}
			if got := d.run(); got.End != impl.EndSteps || got.Steps != k || got.Value != plain(0) || !isBeginning(got, whole) {
				t.Fatalf("within %d steps Run gives\n%v, and within more\n%v:\n%s", k, got, whole, impl.FormatModule(d.M))
			}
			steps++
		}
		for k := told.deepest - 1; k > 0; k-- {
			d.L = impl.Limits{Steps: 1000000, Depth: k}
			if got := d.run(); got.End != impl.EndDepth || got.Steps > whole.Steps || got.Value != plain(0) || !isBeginning(got, whole) {
				t.Fatalf("with the depth %d Run gives\n%v, and with more\n%v:\n%s", k, got, whole, impl.FormatModule(d.M))
			}
			depths++
		}
	}
	if steps < 1000 || depths < 150 {
		t.Error(steps, "steps", depths, "depths")
	}
}

// without is a module in which some functions and globals are extern.
func without(s *sequence, m impl.Module) impl.Module {
	m = deepCopy(m)
	for at := range m.Globals {
		if s.below(3) == 0 {
			m.Globals[at].Link, m.Globals[at].Bytes = impl.LinkExtern, nil
		}
	}
	for at := range m.Funcs {
		if at > 0 && s.below(3) == 0 {
			m.Funcs[at].Link, m.Funcs[at].Blocks = impl.LinkExtern, nil
		}
	}
	return m
}

// TestRunsThatMissSomethingTellABeginning is the second half of promise 8.
func TestRunsThatMissSomethingTellABeginning(t *testing.T) {
	t.Parallel()
	s := sequence(73)
	missing, printed, same := 0, 0, 0
	for range 3000 {
		d := drawRun(&s)
		whole := d.run()
		d.M = without(&s, d.M)
		part := checkRun(t, d.M, d.Entry, d.Args, d.L).out
		switch {
		case part.End != impl.EndMissing:
			same++
			if !alike(part, whole) {
				t.Fatalf("Run misses nothing, and gives\n%v, not\n%v:\n%s", part, whole, impl.FormatModule(d.M))
			}
		case !isBeginning(part, whole) || part.Steps > whole.Steps || part.Value != plain(0) || !impl.Refines(part, whole):
			t.Fatalf("Run misses something, and gives\n%v, and the whole gives\n%v:\n%s", part, whole, impl.FormatModule(d.M))
		default:
			missing++
			printed += min(1, len(part.Prints))
		}
	}
	if missing < 500 || printed < 100 || same < 500 {
		t.Error(missing, "miss something", printed, "printed", same, "do not")
	}
}

// TestRunsOfPartsAndTheirWhole: what one module misses another one has.
func TestRunsOfPartsAndTheirWhole(t *testing.T) {
	head := "global @n extern 8\nfunc @other extern (i64) i64\n"
	part := moduleOf(t, head+"func @main strong () i64 {\n0:\n  print 1\n  %0 = call i64 @other(5)\n  print %0\n  %1 = load i64 @n\n  print %1\n  return i64 %1\n}\n")
	other := moduleOf(t, "global @n strong 8 2a\nfunc @other strong (i64) i64 {\n0:\n  print 2\n  %1 = load i64 @n\n  store i64 %0, @n\n  return i64 %1\n}\n")
	for _, list := range [][]impl.Module{{part, other}, {other, part}} {
		merged := impl.Merge(list)
		if got := impl.Run(merged.Module, "main", nil, enough); merged.Code != 0 || !alike(got, gives(plain(5), 10, 1, 2, 42, 5)) {
			t.Error("the whole gives", merged.Code, got)
		}
	}
	if got := impl.Run(part, "main", nil, enough); !alike(got, stops(impl.EndMissing, 2, 1)) {
		t.Error("a part gives", got)
	}
	if got := impl.Run(other, "other", []uint64{9}, enough); !alike(got, gives(plain(42), 4, 2)) {
		t.Error("the other part gives", got)
	}
}

// bytesProgram stores things into an object of this size, by the operands things, at random; what stands in its bytes is told, too.
func bytesProgram(s *shaper, size int64, things []impl.Operand, values []impl.Value) ([]impl.Instr, []any) {
	model := make([]any, size)
	var list []impl.Instr
	next := int64(3)
	for range 1 + s.below(8) {
		kind := s.oneOf(allTypes...)
		if bytesOf(kind) > size {
			continue
		}
		at := int64(s.below(int(size - bytesOf(kind) + 1)))
		pick := s.below(len(things))
		what, v := things[pick], values[pick]
		if kind != impl.TypePtr {
			v = plain(s.word(kind))
			what = wordArg(kind, v.Word)
		}
		if s.below(6) == 0 {
			what, v = poisonArg(kind), poisoned
		}
		list = append(list, ins(impl.OpOffset, impl.TypePtr, valueArg(impl.TypePtr, 0), wordArg(64, uint64(at))), ins(impl.OpStore, 0, what, valueArg(impl.TypePtr, next)))
		next++
		for n := range bytesOf(kind) {
			switch {
			case v.Poison:
				model[at+n] = nil
			case kind == impl.TypePtr:
				model[at+n] = piece{v, n}
			default:
				model[at+n] = byte(v.Word >> (8 * n))
			}
		}
	}
	return list, model
}

// wantLoad is what the bytes stand for.
func wantLoad(kind int64, bytes []any) impl.Value {
	first, isPiece := bytes[0].(piece)
	var word uint64
	for n, thing := range bytes {
		if kind == impl.TypePtr && (!isPiece || thing != any(piece{first.of, int64(n)})) {
			return poisoned
		}
		b, isByte := thing.(byte)
		if kind != impl.TypePtr && !isByte {
			return poisoned
		}
		word |= uint64(b) << (8 * n)
	}
	switch {
	case kind == impl.TypePtr:
		return first.of
	case kind == 1 && word > 1:
		return poisoned
	}
	return plain(word)
}

// TestMemoryHoldsBytes is promise 9: what was stored last at each byte is loaded, by each type at each place.
func TestMemoryHoldsBytes(t *testing.T) {
	t.Parallel()
	s := &shaper{sequence: new(sequence)}
	*s.sequence = 74
	found := map[bool]int{}
	for range 400 {
		size := s.oneOf(1, 2, 3, 8, 11, 20)
		// The values 0 to 2 are the object, which is the second one, a pointer into it, and one into the global.
		begin := []impl.Instr{alloca(size), ins(impl.OpOffset, impl.TypePtr, valueArg(impl.TypePtr, 0), wordArg(64, 1)), ins(impl.OpOffset, impl.TypePtr, globalArg(0), wordArg(64, 1))}
		things := []impl.Operand{nullArg(), globalArg(0), valueArg(impl.TypePtr, 0), valueArg(impl.TypePtr, 1), valueArg(impl.TypePtr, 2)}
		values := []impl.Value{{}, {Object: 1}, {Object: 2}, {Object: 2, Word: 1}, {Object: 1, Word: 1}}
		stores, model := bytesProgram(s, size, things, values)
		for _, kind := range allTypes {
			for at := range size - bytesOf(kind) + 1 {
				next := 3 + int64(len(stores)/2)
				list := slices.Concat(begin, stores, []impl.Instr{ins(impl.OpOffset, impl.TypePtr, valueArg(impl.TypePtr, 0), wordArg(64, uint64(at))), ins(impl.OpLoad, kind, valueArg(impl.TypePtr, next)), ret(valueArg(kind, next+1))})
				m := ofFuncs(function("main", kind, block(list...)))
				m.Globals = []impl.Global{{Name: "g", Link: impl.LinkStrong, Size: 1}}
				want := wantLoad(kind, model[at:at+bytesOf(kind)])
				if got := impl.Run(m, "main", nil, enough); !alike(got, gives(want, int64(len(list)))) {
					t.Fatalf("of the bytes %v at %d Run gives %v, not %v:\n%s", model, at, got, want, impl.FormatModule(m))
				}
				found[want.Poison]++
			}
		}
	}
	if found[true] < 5000 || found[false] < 2000 {
		t.Error(found[true], "are poison", found[false], "are not")
	}
}

// TestRunsLeaveModulesAlone is promise 1 for the functions of this chapter.
func TestRunsLeaveModulesAlone(t *testing.T) {
	t.Parallel()
	s := sequence(75)
	for n := range 600 {
		d := drawRun(&s)
		if n%3 == 0 {
			turnSomething(&s, &d.M)
		}
		if n%10 == 0 {
			d.M = shapedModule(&s)
			d.Entry = namesToDraw[s.below(len(namesToDraw))]
		}
		checkPure(t, "Run", d, drawn.run)
		for range 4 {
			fn, value := int64(s.below(4)), int64(s.below(20))
			checkPure(t, "Watch", d, func(d drawn) []impl.Value { return impl.Watch(d.M, d.Entry, d.Args, d.L, fn, value) })
		}
	}
}

// TestRunAnswersAtEveryModule: nothing that is wrong with a module, its entry, its args or its limits is more than EndBad.
func TestRunAnswersAtEveryModule(t *testing.T) {
	t.Parallel()
	s := sequence(76)
	bad := 0
	for range 3000 {
		d := drawRun(&s)
		for range 1 + s.below(2) {
			turnSomething(&s, &d.M)
		}
		switch s.below(6) {
		case 0:
			d.L.Steps = strange[s.below(len(strange))]
		case 1:
			d.L.Depth = strange[s.below(len(strange))]
		case 2:
			d.Args = append(d.Args, s.next())
		case 3:
			if len(d.Args) > 0 {
				d.Args[s.below(len(d.Args))] = s.next()
			}
		}
		told := checkRun(t, d.M, d.Entry, d.Args, d.L)
		if told.out.End == impl.EndBad {
			bad++
		}
		for _, fn := range []int64{0, 1, strange[s.below(len(strange))]} {
			checkWatch(t, told, d.Entry, d.Args, fn, int64(s.below(6)))
			checkWatch(t, told, d.Entry, d.Args, fn, strange[s.below(len(strange))])
		}
	}
	if bad < 1000 || bad > 2900 {
		t.Error(bad, "are bad")
	}
}
