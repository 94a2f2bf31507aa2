package tests

import (
	"reflect"
	"slices"
	"sort"
	"strconv"
	"strings"
	"testing"

	"loop.example/g00010/impl"
)

func globalOf(name string, link, size int64) impl.Global {
	return impl.Global{Name: name, Link: link, Size: size}
}

// funcOf has one instruction, which prints a number by which it is known; an extern one has none.
func funcOf(name string, link int64, mark uint64) impl.Func {
	f := impl.Func{Name: name, Link: link}
	if link != impl.LinkExtern {
		f.Blocks = []impl.Block{block(ins(impl.OpPrint, 0, wordArg(64, mark)), ret())}
	}
	return f
}

func markOf(f impl.Func) uint64 {
	if len(f.Blocks) == 0 {
		return 0
	}
	return f.Blocks[0].Instrs[0].Args[0].Word
}

func checkCode(t *testing.T, name string, want int64, list ...impl.Module) {
	t.Helper()
	got := impl.Merge(list)
	if got.Code != want || want != 0 && !reflect.DeepEqual(got, impl.ModuleResult{Code: want}) {
		t.Error(name, "gives", got, "not", want)
	}
	if code, _ := wantMerge(list); code != want {
		t.Error("the test's own code of", name, "is", code)
	}
}

func TestMergeOfFew(t *testing.T) {
	if got := impl.Merge(nil); got.Code != 0 || len(got.Module.Globals)+len(got.Module.Funcs) != 0 {
		t.Error("Merge of none gives", got)
	}
	m := fullModule()
	got := impl.Merge(modules(m))
	want := fullModule()
	want.Globals[3].Name, want.Funcs[fullOwn].Name = "own.g$0", "own$0"
	if got.Code != 0 || !alike(got.Module, want) {
		t.Error("Merge of one gives", got)
	}
	got = impl.Merge(modules(impl.Module{}, m, impl.Module{}))
	want.Globals[3].Name, want.Funcs[fullOwn].Name = "own.g$1", "own$1"
	if got.Code != 0 || !alike(got.Module, want) {
		t.Error("Merge of one and none gives", got)
	}
}

func TestMergeFollowsNumbers(t *testing.T) {
	first := impl.Module{
		Globals: []impl.Global{globalOf("x", 1, 4), globalOf("mine", 3, 8), globalOf("y", 0, 2)},
		Funcs:   []impl.Func{funcOf("f", 1, 5), funcOf("g", 0, 0), funcOf("own", 3, 6)},
	}
	user := function("user", impl.TypePtr,
		block(call(0, 0), call(1, 0), call(2, 0), call(3, impl.TypePtr), ins(impl.OpStore, 0, globalArg(0), globalArg(1)), switchOn(wordArg(8, 1), []uint64{1, 2}, 1, 0, 1)),
		block(ret(globalArg(2))))
	second := impl.Module{
		Globals: []impl.Global{globalOf("y", 1, 2), globalOf("mine", 3, 16), globalOf("x", 0, 4)},
		Funcs:   []impl.Func{funcOf("own", 3, 7), funcOf("g", 1, 8), funcOf("f", 0, 0), user},
	}
	got := impl.Merge(modules(first, second))
	want := impl.Module{
		Globals: []impl.Global{globalOf("x", 1, 4), globalOf("mine$0", 3, 8), globalOf("y", 1, 2), globalOf("mine$1", 3, 16)},
		Funcs:   []impl.Func{funcOf("f", 1, 5), funcOf("g", 1, 8), funcOf("own$0", 3, 6), funcOf("own$1", 3, 7), user},
	}
	want.Funcs[4] = deepCopy(user)
	list := want.Funcs[4].Blocks[0].Instrs
	list[0].Callee, list[1].Callee, list[2].Callee, list[3].Callee = 3, 1, 0, 4
	list[4].Args[0].Index, list[4].Args[1].Index = 2, 3
	want.Funcs[4].Blocks[1].Instrs[0].Args[0].Index = 0
	if got.Code != 0 || !alike(got.Module, want) {
		t.Error("Merge gives", got, "not", want)
	}
}

func TestMergeCodes(t *testing.T) {
	f := func(name string, link int64) impl.Module { return ofFuncs(funcOf(name, link, 1)) }
	g := func(name string, link, size int64) impl.Module { return ofGlobals(globalOf(name, link, size)) }
	fixed := g("a", 2, 4)
	fixed.Globals[0].Fixed = true
	byResult, byParams := f("a", 0), f("a", 0)
	byResult.Funcs[0].Result, byParams.Funcs[0].Params = 8, []int64{8}
	localByParams := f("a", 3)
	localByParams.Funcs[0].Params = []int64{8}
	long := strings.Repeat("l", 23)
	checkCode(t, "a fault in the last", 1, f("a", 1), f("b", 1), ofFuncs(impl.Func{}))
	checkCode(t, "a fault ahead of all", 1, f("a", 1), f("a", 1), g("a", 1, 0))
	checkCode(t, "two kinds", 2, f("a", 1), g("a", 1, 4))
	checkCode(t, "two extern kinds", 2, g("a", 0, 4), f("b", 1), f("a", 0))
	checkCode(t, "kinds ahead of two strong", 2, f("b", 1), f("b", 1), f("a", 1), g("a", 1, 4))
	checkCode(t, "a local function and a global", 0, f("a", 3), g("a", 1, 4))
	checkCode(t, "a function and a local global", 0, f("a", 2), g("a", 3, 4))
	checkCode(t, "two local kinds", 0, f("a", 3), g("a", 3, 4))
	checkCode(t, "two strong functions", 3, f("a", 1), f("a", 1))
	checkCode(t, "two strong globals", 3, g("a", 1, 4), f("b", 1), g("a", 1, 4))
	checkCode(t, "strong ahead of different", 3, g("a", 1, 4), g("a", 1, 5))
	checkCode(t, "strong ahead of different others", 3, byResult, f("a", 2), g("b", 1, 4), g("b", 1, 4))
	checkCode(t, "a strong one and a local one", 0, f("a", 1), f("a", 3), f("a", 2))
	checkCode(t, "sizes", 4, g("a", 1, 4), g("a", 0, 5))
	checkCode(t, "sizes of weak ones", 4, g("a", 2, 4), g("a", 2, 5), g("a", 1, 5))
	checkCode(t, "sizes of extern ones", 4, g("a", 0, 4), g("a", 0, 8))
	checkCode(t, "fixed", 4, fixed, g("a", 1, 4))
	checkCode(t, "results", 4, f("a", 1), byResult)
	checkCode(t, "parameters", 4, byParams, f("a", 2))
	checkCode(t, "result and parameters of extern ones", 4, byParams, byResult)
	checkCode(t, "local ones differ", 0, g("a", 3, 4), g("a", 3, 8), g("a", 1, 9), localByParams, f("a", 3))
	checkCode(t, "a local name that becomes too long", 5, g(long, 3, 4))
	checkCode(t, "a function's local name that becomes too long", 5, f("a", 1), f(long, 3))
	checkCode(t, "the same, not local", 0, f(long+"x", 1), g(long, 1, 4))
	checkCode(t, "two bytes of room", 0, f(long[:22], 3))
	checkCode(t, "a name that there is already", 5, f("a$1", 1), f("a", 3))
	checkCode(t, "a global's name that there is already", 5, f("a$1", 1), g("a", 3, 1))
	checkCode(t, "two local names that become one", 5, impl.Module{Globals: []impl.Global{globalOf("a", 3, 1)}, Funcs: []impl.Func{funcOf("a$0", 1, 1)}})
	checkCode(t, "the module's number is not the name's", 0, f("a$0", 3), f("a", 3))
}

func TestMergeOfTooMany(t *testing.T) {
	var list []impl.Module
	for n := range 13 {
		name := "n" + strconv.Itoa(n)
		list = append(list, impl.Module{Globals: []impl.Global{globalOf("g"+name, 1+int64(n%3), 4)}, Funcs: []impl.Func{funcOf(name, 1+int64(n%3), 1)}})
	}
	checkCode(t, "12 of both", 0, list[:12]...)
	checkCode(t, "13 of both", 5, list...)
	for n := range list {
		list[n].Globals = nil
	}
	checkCode(t, "13 functions", 5, list...)
	list[12].Funcs[0] = funcOf("n4", 0, 0)
	checkCode(t, "13 functions, two of one name", 0, list...)
	var same []impl.Module
	for range 300 {
		same = append(same, ofFuncs(funcOf("f", 2, 3)))
	}
	checkCode(t, "300 modules with one name", 0, same...)
	same = append(slices.Repeat(modules(impl.Module{}), 100), ofGlobals(globalOf(strings.Repeat("l", 21), 3, 1)))
	checkCode(t, "the number of the module is too long", 5, same...)
	checkCode(t, "the number of the module is not too long", 0, same[1:]...)
}

// TestWhichOneStands: of one name the strong one, or the first weak one, or the extern one, at the place of the first.
func TestWhichOneStands(t *testing.T) {
	links := []int64{impl.LinkExtern, impl.LinkStrong, impl.LinkWeak, impl.LinkLocal}
	for code := range 256 {
		var list []impl.Module
		mark, link, strong, others := uint64(0), int64(-1), 0, 0
		for n := range 4 {
			l := links[code>>(2*n)&3]
			list = append(list, ofFuncs(funcOf("before"+strconv.Itoa(n), 1, 99), funcOf("f", l, uint64(n)+1)))
			switch {
			case l == impl.LinkLocal:
				others++
			case l == impl.LinkStrong:
				strong++
				mark, link = uint64(n)+1, l
			case l == impl.LinkWeak && link != impl.LinkStrong && link != impl.LinkWeak:
				mark, link = uint64(n)+1, l
			case link < 0:
				link = l
			}
		}
		got := impl.Merge(list)
		if strong > 1 {
			if got.Code != 3 {
				t.Error("links", code, "give", got.Code)
			}
			continue
		}
		at := slices.IndexFunc(got.Module.Funcs, func(f impl.Func) bool { return f.Name == "f" })
		if got.Code != 0 || (at >= 0) != (link >= 0) || at >= 0 && (markOf(got.Module.Funcs[at]) != mark || got.Module.Funcs[at].Link != link) {
			t.Error("links", code, "give", got)
		}
	}
}

// wantMerge merges name by name, by the words of the document.
func wantMerge(list []impl.Module) (int64, impl.Module) {
	for _, m := range list {
		if wantFault(m).Code != 0 {
			return 1, impl.Module{}
		}
	}
	if code := wantClash(list); code != 0 {
		return code, impl.Module{}
	}
	whole := impl.Module{}
	for n, m := range list {
		for _, g := range m.Globals {
			if name := nameInWhole(g.Name, g.Link, n); findGlobal(whole, name, false) < 0 || g.Link == 3 {
				g = standingGlobal(list, g)
				g.Name = name
				whole.Globals = append(whole.Globals, deepCopy(g))
			}
		}
	}
	var homes []int
	for n, m := range list {
		for _, f := range m.Funcs {
			if name := nameInWhole(f.Name, f.Link, n); findFunc(whole, name, false) < 0 || f.Link == 3 {
				home := n
				if f.Link != 3 {
					f, home = standingFunc(list, f)
				}
				f.Name = name
				whole.Funcs = append(whole.Funcs, deepCopy(f))
				homes = append(homes, home)
			}
		}
	}
	for at, home := range homes {
		follow(list[home], home, whole, whole.Funcs[at])
	}
	if wantFault(whole).Code != 0 {
		return 5, impl.Module{}
	}
	return 0, whole
}

func nameInWhole(name string, link int64, module int) string {
	if link == impl.LinkLocal {
		return name + "$" + strconv.Itoa(module)
	}
	return name
}

// findGlobal looks among the local ones or among the others.
func findGlobal(m impl.Module, name string, local bool) int64 {
	return int64(slices.IndexFunc(m.Globals, func(g impl.Global) bool { return g.Name == name && (g.Link == impl.LinkLocal) == local }))
}

func findFunc(m impl.Module, name string, local bool) int64 {
	return int64(slices.IndexFunc(m.Funcs, func(f impl.Func) bool { return f.Name == name && (f.Link == impl.LinkLocal) == local }))
}

// follow looks the names up of what the instructions of a function from one module speak of.
func follow(from impl.Module, home int, whole impl.Module, f impl.Func) {
	for _, b := range f.Blocks {
		for n, i := range b.Instrs {
			if i.Op == impl.OpCall {
				callee := from.Funcs[i.Callee]
				b.Instrs[n].Callee = findFunc(whole, nameInWhole(callee.Name, callee.Link, home), callee.Link == 3)
			}
			for k, o := range i.Args {
				if o.Kind == impl.OperandGlobal {
					g := from.Globals[o.Index]
					i.Args[k].Index = findGlobal(whole, nameInWhole(g.Name, g.Link, home), g.Link == 3)
				}
			}
		}
	}
}

func standingGlobal(list []impl.Module, g impl.Global) impl.Global {
	for _, link := range []int64{1, 2, 0} {
		for _, m := range list {
			for _, other := range m.Globals {
				if g.Link != 3 && other.Link == link && other.Name == g.Name {
					return other
				}
			}
		}
	}
	return g
}

func standingFunc(list []impl.Module, f impl.Func) (impl.Func, int) {
	for _, link := range []int64{1, 2, 0} {
		for n, m := range list {
			for _, other := range m.Funcs {
				if other.Link == link && other.Name == f.Name {
					return other, n
				}
			}
		}
	}
	return f, -1
}

// wantClash looks at each two things that are not local and have one name.
func wantClash(list []impl.Module) int64 {
	type named struct {
		kind, link int64
		form       string
	}
	all := map[string][]named{}
	for _, m := range list {
		for _, g := range m.Globals {
			if g.Link != 3 {
				all[g.Name] = append(all[g.Name], named{0, g.Link, strconv.FormatInt(g.Size, 10) + strconv.FormatBool(g.Fixed)})
			}
		}
		for _, f := range m.Funcs {
			if f.Link != 3 {
				form := strconv.FormatInt(f.Result, 10)
				for _, p := range f.Params {
					form += "," + strconv.FormatInt(p, 10)
				}
				all[f.Name] = append(all[f.Name], named{1, f.Link, form})
			}
		}
	}
	code := int64(9)
	for _, list := range all {
		for i, a := range list {
			for _, b := range list[:i] {
				switch {
				case a.kind != b.kind:
					code = min(code, 2)
				case a.link == 1 && b.link == 1:
					code = min(code, 3)
				case a.form != b.form:
					code = min(code, 4)
				}
			}
		}
	}
	return code % 9
}

// randomModule draws names from a few, so that modules meet.
func randomModule(s *sequence, kinds int) impl.Module {
	var m impl.Module
	names := []string{"a", "b", "c", "d", "e", "f", "a$1", "longlonglonglonglonglong"}
	for _, name := range names {
		link := int64([]int{0, 0, 1, 2, 2, 3, 3}[s.below(7)])
		switch s.below(6) {
		case 0, 1:
			if kinds&1 != 0 || name < "c" {
				m.Globals = append(m.Globals, globalOf(name, link, 4+int64(s.below(50)/49)))
			}
		case 2, 3, 4:
			if kinds&2 != 0 || name >= "c" {
				f := funcOf(name, link, s.next())
				f.Result = int64(s.below(50)/49) * 8
				m.Funcs = append(m.Funcs, f)
			}
		}
	}
	for at := range m.Funcs {
		if len(m.Funcs[at].Blocks) > 0 {
			m.Funcs[at].Blocks[0] = randomBody(s, m, at)
		}
	}
	return m
}

func randomBody(s *sequence, m impl.Module, at int) impl.Block {
	body := m.Funcs[at].Blocks[0].Instrs[:1]
	for range s.below(5) {
		if len(m.Globals) > 0 && s.below(2) == 0 {
			body = append(body, ins(impl.OpStore, 0, globalArg(int64(s.below(len(m.Globals)))), globalArg(int64(s.below(len(m.Globals))))))
			continue
		}
		callee := s.below(len(m.Funcs))
		body = append(body, call(int64(callee), m.Funcs[callee].Result))
	}
	if r := m.Funcs[at].Result; r != 0 {
		return block(append(body, ret(wordArg(r, 7)))...)
	}
	return block(append(body, ret())...)
}

func TestMergeOfManyModules(t *testing.T) {
	s := sequence(7)
	codes := map[int64]int{}
	for range 12000 {
		var list []impl.Module
		kinds := s.below(4)
		for range s.below(5) {
			list = append(list, randomModule(&s, kinds))
		}
		code, whole := wantMerge(list)
		got := impl.Merge(list)
		if got.Code != code || !alike(got.Module, whole) {
			t.Fatalf("Merge gives %+v, not %d %+v, of %+v", got, code, whole, list)
		}
		codes[code]++
	}
	for _, code := range []int64{0, 2, 3, 4, 5} {
		if codes[code] < 100 {
			t.Error("the code", code, "came", codes[code], "times")
		}
	}
}

func TestMergeLeavesItsModulesAlone(t *testing.T) {
	s := sequence(11)
	for range 300 {
		list := modules(fullModule())
		for range s.below(3) {
			list = append(list, randomModule(&s, 2))
		}
		for range s.below(3) {
			turnSomething(&s, &list[0])
		}
		checkPure(t, "Merge", list, impl.Merge)
	}
	checkPure(t, "Merge", modules(fullModule(), ofFuncs(sumFunc())), impl.Merge)
	checkPure(t, "Merge", nil, impl.Merge)
}

// meaning tells a module's things by name, in an order of their own: what a module means hangs on nothing else.
// Local names are told without the number of the module.
func meaning(m impl.Module) []string {
	plain := func(name string, link int64) string {
		if link == impl.LinkLocal {
			name, _, _ = strings.Cut(name, "$")
		}
		return name
	}
	var out []string
	for _, g := range m.Globals {
		out = append(out, strings.Join([]string{"global", plain(g.Name, g.Link), strconv.FormatInt(g.Link, 10), strconv.FormatInt(g.Size, 10), strconv.FormatBool(g.Fixed), string(g.Bytes)}, " "))
	}
	for _, f := range m.Funcs {
		text := "func " + plain(f.Name, f.Link) + " " + strconv.FormatInt(f.Link, 10) + numbersText(f.Params) + numbersText([]int64{f.Result})
		for _, b := range f.Blocks {
			text += "\nblock"
			for _, i := range b.Instrs {
				text += "\n" + numbersText([]int64{i.Op, i.Type, i.Flags, i.Pred, i.Size}) + numbersText(i.Blocks)
				if i.Op == impl.OpCall {
					text += plain(m.Funcs[i.Callee].Name, m.Funcs[i.Callee].Link)
				}
				for _, w := range i.Words {
					text += strconv.FormatUint(w, 10) + " "
				}
				for _, o := range i.Args {
					if o.Kind == impl.OperandGlobal {
						text += plain(m.Globals[o.Index].Name, m.Globals[o.Index].Link)
						continue
					}
					text += numbersText([]int64{o.Kind, o.Type, o.Index}) + strconv.FormatUint(o.Word, 10)
				}
			}
		}
		out = append(out, text)
	}
	sort.Strings(out)
	return out
}

func numbersText(list []int64) string {
	out := "("
	for _, n := range list {
		out += strconv.FormatInt(n, 10) + " "
	}
	return out + ")"
}

// split takes a module apart: each part has the functions and globals that go to it, and extern ones for all others
// that are not local. What is local must be used in its own part alone.
func split(m impl.Module, parts int, partOfGlobal, partOfFunc []int) []impl.Module {
	var out []impl.Module
	for p := range parts {
		var part impl.Module
		globals, funcs := map[int64]int64{}, map[int64]int64{}
		for at, g := range m.Globals {
			if partOfGlobal[at] != p && g.Link == impl.LinkLocal {
				continue
			}
			if partOfGlobal[at] != p {
				g.Link, g.Bytes = impl.LinkExtern, nil
			}
			globals[int64(at)] = int64(len(part.Globals))
			part.Globals = append(part.Globals, deepCopy(g))
		}
		for at, f := range m.Funcs {
			if partOfFunc[at] != p && f.Link == impl.LinkLocal {
				continue
			}
			if partOfFunc[at] != p {
				f.Link, f.Blocks = impl.LinkExtern, nil
			}
			funcs[int64(at)] = int64(len(part.Funcs))
			part.Funcs = append(part.Funcs, deepCopy(f))
		}
		renumber(part, globals, funcs)
		out = append(out, part)
	}
	return out
}

func renumber(m impl.Module, globals, funcs map[int64]int64) {
	for _, f := range m.Funcs {
		for _, b := range f.Blocks {
			for n, i := range b.Instrs {
				if i.Op == impl.OpCall {
					b.Instrs[n].Callee = funcs[i.Callee]
				}
				for k, o := range i.Args {
					if o.Kind == impl.OperandGlobal {
						i.Args[k].Index = globals[o.Index]
					}
				}
			}
		}
	}
}

// orders are all orders of a list.
func orders(list []impl.Module) [][]impl.Module {
	if len(list) == 0 {
		return [][]impl.Module{nil}
	}
	var out [][]impl.Module
	for i := range list {
		rest := append(slices.Clone(list[:i]), list[i+1:]...)
		for _, o := range orders(rest) {
			out = append(out, append([]impl.Module{list[i]}, o...))
		}
	}
	return out
}

// TestMergeOfThePartsIsTheWhole is promise 4: in any order of the parts, weak ones beside strong ones or not.
func TestMergeOfThePartsIsTheWhole(t *testing.T) {
	whole := fullModule()
	want := meaning(whole)
	s := sequence(13)
	for range 60 {
		// every and weak use the local global 3; nobody calls the local function 3.
		home := s.below(4)
		partOfGlobal := []int{s.below(4), s.below(4), s.below(4), home}
		partOfFunc := []int{s.below(4), s.below(4), home, s.below(4), home}
		parts := split(whole, 4, partOfGlobal, partOfFunc)
		for at, f := range whole.Funcs {
			// What is strong in its own part goes ahead of a weak one in another.
			if other := (partOfFunc[at] + 1) % 4; f.Link == impl.LinkStrong {
				n := findFunc(parts[other], f.Name, false)
				parts[other].Funcs[n].Link = impl.LinkWeak
				parts[other].Funcs[n].Blocks = []impl.Block{block(trap())}
			}
		}
		for _, list := range orders(parts) {
			got := impl.Merge(list)
			if got.Code != 0 || !slices.Equal(meaning(got.Module), want) {
				t.Fatalf("Merge of the parts gives %d\n%s\nnot\n%s", got.Code, strings.Join(meaning(got.Module), "\n"), strings.Join(want, "\n"))
			}
		}
	}
}
