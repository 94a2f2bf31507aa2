package tests

import (
	"testing"

	"loop.example/g00010/impl"
)

func words(list ...uint64) []impl.Value {
	var out []impl.Value
	for _, v := range list {
		out = append(out, plain(v))
	}
	return out
}

// watchCase is what is seen of a value of main, which is the function 7, or of one ahead of it.
type watchCase struct {
	fn, value int64
	want      []impl.Value
}

func checkWatchCases(t *testing.T, l impl.Limits, result, lines string, list []watchCase) {
	t.Helper()
	m := moduleOf(t, around+mainOf(result, lines))
	told := checkRun(t, m, "main", nil, l)
	for _, c := range list {
		if got := impl.Watch(m, "main", nil, l, c.fn, c.value); !alike(got, c.want) {
			t.Errorf("%s: Watch of %d, %d gives %v, not %v", lines, c.fn, c.value, got, c.want)
		}
		checkWatch(t, told, "main", nil, c.fn, c.value)
	}
}

func TestWatchOfLoopsAndCalls(t *testing.T) {
	const loop = "jump 1; 1:; %0 = phi i64 [0, 0], [%1, 1]; %1 = add i64 %0, 1; %2 = cmp ult i64 %1, 3; %3 = call i64 @id(%1); branch %2, 1, 2; 2:; return i64 %1"
	checkWatchCases(t, enough, "i64", loop, []watchCase{
		{7, 0, words(0, 1, 2)},
		{7, 1, words(1, 2, 3)},
		{7, 2, words(1, 1, 0)},
		{7, 3, words(1, 2, 3)},
		{2, 0, words(1, 2, 3)},
		{7, 4, nil},
		{7, -1, nil},
		{3, 0, nil},
		{0, 0, nil},
		{1, 0, nil},
		{8, 0, nil},
		{-1, 0, nil},
		{-1, -1, nil},
		{-1 << 63, -1 << 63, nil},
		{1<<63 - 1, 1<<63 - 1, nil},
		{7, 1 << 32, nil},
		{7 + 1<<32, 0, nil},
	})
	// Several calls of one function at once: parameters as they are called, values as they come back.
	checkWatchCases(t, impl.Limits{Steps: 100, Depth: 5}, "i64", "%0 = call i64 @down(3); %1 = call i64 @down(1); return i64 %0", []watchCase{
		{6, 0, words(3, 2, 1, 0, 1, 0)},
		{6, 1, words(0, 0, 0, 1, 0, 1)},
		{6, 2, words(2, 1, 0, 0)},
		{6, 3, words(100, 101, 102, 100)},
		{6, 4, words(101, 102, 103, 101)},
		{7, 0, words(103)},
		{7, 1, words(101)},
	})
	checkWatchCases(t, enough, "ptr", "%0 = call ptr @leak(); %1 = call ptr @same(%0); %2 = call ptr @same(poison); %3 = call ptr @leak(); %4 = load i64 @c; return ptr null", []watchCase{
		{4, 0, []impl.Value{{Object: 5}, {Object: 6}}},
		{3, 0, []impl.Value{{Object: 5}, {Poison: true}}},
		{7, 1, []impl.Value{{Object: 5}}},
		{7, 2, []impl.Value{{Poison: true}}},
		{7, 4, words(7)},
	})
}

// TestWatchUpToTheEnd: what was defined up to the end of the run is told, and no more.
func TestWatchUpToTheEnd(t *testing.T) {
	checkWatchCases(t, enough, "i64", "%0 = add i64 1, 1; %1 = udiv i64 %0, 0; %2 = add i64 1, 1; return i64 %2", []watchCase{
		{7, 0, words(2)}, {7, 1, nil}, {7, 2, nil},
	})
	checkWatchCases(t, enough, "i64", "%0 = call i64 @out(5); return i64 %0", []watchCase{{7, 0, nil}, {0, 0, nil}})
	checkWatchCases(t, impl.Limits{Steps: 100, Depth: 2}, "i64", "%0 = call i64 @down(9); return i64 %0", []watchCase{
		{6, 0, words(9)}, {6, 2, words(8)}, {6, 3, nil}, {7, 0, nil},
	})
	// Phis take their values as the block is entered, be there a step left or not; but none does if one of them misses its own.
	checkWatchCases(t, impl.Limits{Steps: 1, Depth: 1}, "i64", "jump 1; 1:; %0 = phi i64 [4, 0]; %1 = phi i64 [5, 0]; %2 = add i64 1, 2; return i64 %0", []watchCase{
		{7, 0, words(4)}, {7, 1, words(5)}, {7, 2, nil},
	})
	checkWatchCases(t, enough, "i64", "jump 1; 1:; %0 = phi i64 [4, 0]; %1 = phi ptr [@far, 0]; %2 = phi i64 [5, 0]; return i64 %0", []watchCase{
		{7, 0, nil}, {7, 1, nil}, {7, 2, nil},
	})
	// The parameters of the entry, though no step is taken behind the first.
	m := moduleOf(t, around)
	if got := impl.Watch(m, "down", []uint64{5}, impl.Limits{Steps: 1, Depth: 1}, 6, 0); !alike(got, words(5)) {
		t.Error("the parameter of the entry is", got)
	}
	if got := impl.Watch(m, "down", []uint64{5}, impl.Limits{Steps: 0, Depth: 1}, 6, 0); len(got) != 0 {
		t.Error("of a run that is bad Watch gives", got)
	}
	if got := impl.Watch(m, "say", []uint64{5, 200}, enough, 5, 1); !alike(got, words(200)) {
		t.Error("the second parameter is", got)
	}
}

func TestWatchSeesAThousand(t *testing.T) {
	for _, count := range []int{999, 1000, 1001, 1500} {
		m := moduleOf(t, around+mainOf("void", "jump 1; 1:; %0 = phi i64 [0, 0], [%1, 1]; %1 = add i64 %0, 1; %2 = cmp ult i64 %1, "+impl.FormatWord(64, uint64(count))+"; branch %2, 1, 2; 2:; %3 = add i64 5, 5; return"))
		var rising []uint64
		for n := range min(count, 1000) {
			rising = append(rising, uint64(n))
		}
		if got := impl.Watch(m, "main", nil, enough, 7, 0); !alike(got, words(rising...)) {
			t.Error("of", count, "values Watch gives", len(got))
		}
		if got := impl.Watch(m, "main", nil, enough, 7, 3); !alike(got, words(10)) {
			t.Error("behind", count, "values Watch gives", got)
		}
	}
}

// wantRefines is the document's sentence.
func wantRefines(a, b impl.Outcome) bool {
	n := min(len(a.Prints), len(b.Prints))
	begins, same := alike(a.Prints[:n], b.Prints[:n]), alike(a.Prints, b.Prints)
	return a.End == 7 ||
		a.End >= 2 && a.End <= 6 && begins ||
		a.End == b.End && same && (a.Value.Poison || a.Value.Object != 0 || alike(a.Value, b.Value))
}

func TestRefinesByHand(t *testing.T) {
	prints := func(o impl.Outcome, list ...uint64) impl.Outcome {
		o.Prints = list
		return o
	}
	word, other, pointer := gives(plain(3), 5), gives(plain(4), 6), gives(impl.Value{Object: 2, Word: 3}, 7)
	poison, none := gives(poisoned, 4), gives(plain(0), 3)
	undef, trap, bad := stops(impl.EndUndefined, 1), stops(impl.EndTrap, 1), stops(impl.EndBad, 0)
	for n, c := range []struct {
		a, b impl.Outcome
		want bool
	}{
		{word, word, true},
		{word, other, false},
		{word, gives(plain(3), 99), true},
		{word, poison, false},
		{word, pointer, false},
		{word, undef, false},
		{word, trap, false},
		{word, stops(impl.EndSteps, 1), false},
		{word, bad, false},
		{none, none, true},
		{none, gives(plain(0), 9), true},
		{none, pointer, false},
		{poison, word, true},
		{poison, pointer, true},
		{poison, poison, true},
		{poison, trap, false},
		{poison, undef, false},
		{pointer, pointer, true},
		{pointer, gives(impl.Value{Object: 3}, 1), true},
		{pointer, word, true},
		{pointer, poison, true},
		{pointer, prints(pointer, 1), false},
		{poison, prints(word, 1), false},
		{prints(word, 1), word, false},
		{prints(word, 1, 2), prints(word, 1, 2), true},
		{prints(word, 1, 2), prints(word, 1, 3), false},
		{prints(word, 1, 2), prints(word, 1), false},
		{prints(word, 1), prints(word, 1, 2), false},
		{trap, trap, true},
		{prints(trap, 1), prints(trap, 1), true},
		{prints(trap, 1), prints(trap, 2), false},
		{prints(trap, 1), trap, false},
		{trap, none, false},
		{undef, word, true},
		{undef, prints(trap, 7), true},
		{undef, bad, true},
		{prints(undef, 1, 2), prints(word, 1, 2, 3), true},
		{prints(undef, 1, 2), prints(word, 1), true},
		{prints(undef, 1, 2), word, true},
		{prints(undef, 1, 2), prints(undef, 1, 3), false},
		{prints(undef, 1, 2), prints(word, 2), false},
		{prints(undef, 1, 2), prints(word, 2, 1), false},
		{prints(stops(impl.EndMissing, 3), 1), prints(stops(impl.EndMissing, 3), 2), false},
		{prints(stops(impl.EndDepth, 3), 1), prints(word, 1, 5), true},
		{prints(stops(impl.EndSteps, 3), 1), prints(word, 1, 5), true},
		{prints(stops(impl.EndPrints, 3), 1), prints(word, 1, 5), true},
		{bad, word, true},
		{bad, undef, true},
		{bad, bad, true},
		{prints(bad, 1), prints(word, 2), true},
	} {
		if got := impl.Refines(c.a, c.b); got != c.want {
			t.Error("case", n, "Refines of", c.a, c.b, "gives", got)
		}
	}
}

// TestRefinesOfAllPairs: each end with each, such as there are none too, with some values and some prints.
func TestRefinesOfAllPairs(t *testing.T) {
	var list []impl.Outcome
	for end := int64(-1); end <= 9; end++ {
		for _, v := range []impl.Value{{}, {Word: 1}, {Word: 2}, {Poison: true}, {Object: 1}, {Object: 1, Word: 1}} {
			for n, prints := range [][]uint64{nil, {1}, {2}, {1, 2}, {1, 3}, {1, 2, 3}} {
				list = append(list, impl.Outcome{End: end, Value: v, Prints: prints, Steps: int64(n)})
			}
		}
	}
	may := 0
	for n, a := range list {
		for k, b := range list {
			got := impl.Refines(a, b)
			if want := wantRefines(a, b); got != want {
				t.Fatal("Refines of", a, b, "gives", got)
			}
			if got {
				may++
			}
			if (n+k)%100 == 0 {
				checkPure(t, "Refines", [2]impl.Outcome{a, b}, func(pair [2]impl.Outcome) bool { return impl.Refines(pair[0], pair[1]) })
			}
		}
	}
	if may < 10000 || may > len(list)*len(list)/2 {
		t.Error("Refines is true", may, "times of", len(list)*len(list))
	}
}
