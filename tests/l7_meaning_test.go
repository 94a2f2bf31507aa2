package tests

import (
	"strings"
	"testing"

	"loop.example/g00010/impl"
)

// around is what the cases' function main has around it: the globals are the objects 1 to 4.
const around = `global @g strong 16 0102030405060708090a0b0c0d0e0f10
global @c strong fixed 8 07
global @far extern 8
global @big weak 256 0a0b
func @out extern (i64) i64
func @hush extern (ptr) void
func @id local (i64) i64 {
0:
  return i64 %0
}
func @same weak (ptr) ptr {
0:
  return ptr %0
}
func @leak local () ptr {
0:
  %0 = alloca 8
  store i64 77, %0
  return ptr %0
}
func @say strong (i64, i8) void {
0:
  print %0
  %2 = sext i8 %1 to i64
  print %2
  return
}
func @down strong (i64) i64 {
0:
  print %0
  %1 = cmp eq i64 %0, 0
  branch %1, 1, 2
1:
  return i64 100
2:
  %2 = sub i64 %0, 1
  %3 = call i64 @down(%2)
  %4 = add i64 %3, 1
  print %4
  return i64 %4
}
`

// runCase is the body of a function main without parameters, and what comes of it.
type runCase struct {
	result string
	lines  string
	want   impl.Outcome
}

var enough = impl.Limits{Steps: 10000, Depth: 4}

// mainOf is a function main whose lines have a semicolon between.
func mainOf(result, lines string) string {
	var text strings.Builder
	text.WriteString("func @main strong () " + result + " {\n0:\n")
	for _, line := range strings.Split(lines, "; ") {
		if !strings.HasSuffix(line, ":") {
			line = "  " + line
		}
		text.WriteString(line + "\n")
	}
	return text.String() + "}\n"
}

// gives is a run that returns a value.
func gives(v impl.Value, steps int64, prints ...uint64) impl.Outcome {
	return impl.Outcome{End: impl.EndReturn, Value: v, Steps: steps, Prints: prints}
}

// stops is a run that ends otherwise.
func stops(end, steps int64, prints ...uint64) impl.Outcome {
	return impl.Outcome{End: end, Steps: steps, Prints: prints}
}

func checkRunCases(t *testing.T, l impl.Limits, list []runCase) {
	t.Helper()
	for _, c := range list {
		m := moduleOf(t, around+mainOf(c.result, c.lines))
		if code := impl.Verify(m).Code; code != 0 {
			t.Fatal("the case", c.lines, "has the fault", code)
		}
		if got := impl.Run(m, "main", nil, l); !alike(got, c.want) {
			t.Errorf("%s: Run within %v gives %v, not %v", c.lines, l, got, c.want)
		}
		checkRun(t, m, "main", nil, l)
	}
}

func TestConstantsOfRuns(t *testing.T) {
	got := []int64{impl.MaxSteps, impl.MaxDepth, impl.MaxPrints, impl.MaxSeen, impl.EndReturn, impl.EndTrap, impl.EndUndefined, impl.EndSteps, impl.EndDepth, impl.EndPrints, impl.EndMissing, impl.EndBad}
	want := []int64{1000000, 16, 1000, 1000, 0, 1, 2, 3, 4, 5, 6, 7}
	if !alike(got, want) {
		t.Error(got, "are not", want)
	}
}

func TestRunReturns(t *testing.T) {
	checkRunCases(t, enough, []runCase{
		{"i64", "return i64 7", gives(plain(7), 1)},
		{"i64", "return i64 -7", gives(plain(1<<64-7), 1)},
		{"i8", "return i8 -1", gives(plain(255), 1)},
		{"i1", "return i1 1", gives(plain(1), 1)},
		{"i32", "return i32 poison", gives(poisoned, 1)},
		{"ptr", "return ptr poison", gives(poisoned, 1)},
		{"ptr", "return ptr null", gives(plain(0), 1)},
		{"ptr", "return ptr @big", gives(impl.Value{Object: 4}, 1)},
		{"ptr", "%0 = alloca 4; %1 = alloca 1; return ptr %1", gives(impl.Value{Object: 6}, 3)},
		{"void", "return", gives(plain(0), 1)},
		{"void", "print 5; print -3; return", gives(plain(0), 3, 5, 1<<64-3)},
		{"void", "trap", stops(impl.EndTrap, 1)},
		{"i64", "print 5; trap", stops(impl.EndTrap, 2, 5)},
		{"i64", "%0 = call i64 @id(5); print %0; return i64 6", gives(plain(6), 4, 5)},
		{"i64", "%0 = call i64 @id(poison); return i64 %0", gives(poisoned, 3)},
		{"void", "call void @say(3, -4); print 1; return", gives(plain(0), 7, 3, 1<<64-4, 1)},
		{"void", "call void @say(poison, 0); return", stops(impl.EndUndefined, 2)},
		{"ptr", "%0 = call ptr @same(@c); return ptr %0", gives(impl.Value{Object: 2}, 3)},
		{"ptr", "%0 = call ptr @leak(); %1 = call ptr @leak(); return ptr %1", gives(impl.Value{Object: 6}, 9)},
		{"i64", "%0 = call i64 @down(2); return i64 %0", gives(plain(102), 1+8+8+4+1, 2, 1, 0, 101, 102)},
	})
}

func TestRunOfPhisAndEnds(t *testing.T) {
	checkRunCases(t, enough, []runCase{
		{"i64", "jump 1; 1:; %0 = phi i64 [7, 0]; %1 = phi i64 [poison, 0]; return i64 %0", gives(plain(7), 2)},
		{"i64", "jump 1; 1:; %0 = phi i64 [7, 0]; %1 = phi i64 [poison, 0]; return i64 %1", gives(poisoned, 2)},
		// Two that trade places, and one that goes after them.
		{"i64", "jump 1; 1:; %0 = phi i64 [1, 0], [%1, 1]; %1 = phi i64 [2, 0], [%0, 1]; %2 = phi i64 [0, 0], [%4, 1]; %3 = phi i64 [9, 0], [%0, 1]; %4 = add i64 %2, 1; print %0; print %3; %5 = cmp ult i64 %4, 3; branch %5, 1, 2; 2:; return i64 %1",
			gives(plain(2), 1+3*5+1, 1, 9, 2, 1, 1, 2)},
		// A loop that each phi leaves alone.
		{"i64", "jump 1; 1:; %0 = phi i64 [0, 0], [%1, 1]; %1 = add i64 %0, 1; %2 = cmp eq i64 %1, 4; branch %2, 2, 1; 2:; %3 = phi i64 [%1, 1]; return i64 %3", gives(plain(4), 1+4*3+1)},
		{"i64", "branch 1, 1, 2; 1:; return i64 10; 2:; return i64 20", gives(plain(10), 2)},
		{"i64", "branch 0, 1, 2; 1:; return i64 10; 2:; return i64 20", gives(plain(20), 2)},
		{"i64", "branch 0, 1, 1; 1:; %0 = phi i64 [3, 0]; return i64 %0", gives(plain(3), 2)},
		{"i64", "branch poison, 1, 1; 1:; return i64 10", stops(impl.EndUndefined, 1)},
		{"i64", "switch i8 -1, 1, 7: 2, -1: 3; 1:; return i64 10; 2:; return i64 20; 3:; return i64 30", gives(plain(30), 2)},
		{"i64", "switch i8 7, 1, 7: 2, -1: 3; 1:; return i64 10; 2:; return i64 20; 3:; return i64 30", gives(plain(20), 2)},
		{"i64", "switch i8 8, 1, 7: 2, -1: 3; 1:; return i64 10; 2:; return i64 20; 3:; return i64 30", gives(plain(10), 2)},
		{"i64", "switch i64 0, 1; 1:; return i64 10", gives(plain(10), 2)},
		{"i64", "switch i64 poison, 1; 1:; return i64 10", stops(impl.EndUndefined, 1)},
		{"i64", "switch i1 1, 1, 0: 2; 1:; %0 = phi i64 [4, 0]; return i64 %0; 2:; return i64 20", gives(plain(4), 2)},
		{"void", "print poison; return", stops(impl.EndUndefined, 1)},
		{"void", "print 2; print poison; return", stops(impl.EndUndefined, 2, 2)},
	})
}

func TestRunOfOperationsAtPoison(t *testing.T) {
	back := "; return i64 %0"
	checkRunCases(t, enough, []runCase{
		{"i64", "%0 = add i64 poison, 1" + back, gives(poisoned, 2)},
		{"i64", "%0 = sub i64 1, poison" + back, gives(poisoned, 2)},
		{"i64", "%0 = and i64 poison, 0" + back, gives(poisoned, 2)},
		{"i64", "%0 = mul i64 poison, 0" + back, gives(poisoned, 2)},
		{"i64", "%0 = shl i64 0, poison" + back, gives(poisoned, 2)},
		{"i64", "%0 = udiv i64 poison, 5" + back, gives(poisoned, 2)},
		{"i64", "%0 = srem i64 poison, -1" + back, gives(poisoned, 2)},
		{"i64", "%0 = udiv i64 7, 2" + back, gives(plain(3), 2)},
		{"i64", "%0 = udiv exact i64 7, 2" + back, gives(poisoned, 2)},
		{"i64", "%0 = add nuw i64 -1, 1" + back, gives(poisoned, 2)},
		{"i64", "%0 = add nsw i64 -1, 1" + back, gives(plain(0), 2)},
		{"i64", "%0 = shl i64 1, 64" + back, gives(poisoned, 2)},
		{"i64", "%0 = zext i8 poison to i64" + back, gives(poisoned, 2)},
		{"i64", "%0 = sext i8 -1 to i64" + back, gives(plain(1<<64-1), 2)},
		{"i8", "%0 = trunc i64 511 to i8; return i8 %0", gives(plain(255), 2)},
		{"i8", "%0 = trunc i64 poison to i8; return i8 %0", gives(poisoned, 2)},
		{"i1", "%0 = cmp eq i64 poison, poison; return i1 %0", gives(poisoned, 2)},
		{"i1", "%0 = cmp ult i64 poison, 0; return i1 %0", gives(poisoned, 2)},
		{"i1", "%0 = cmp slt i8 -1, 0; return i1 %0", gives(plain(1), 2)},
		{"i1", "%0 = cmp ult i8 -1, 0; return i1 %0", gives(plain(0), 2)},
	})
	// Of a division by poison or by 0 nothing else is looked at, nor of the least number by -1.
	for _, op := range []string{"udiv", "sdiv", "urem", "srem"} {
		for _, args := range []string{"5, 0", "5, poison", "poison, 0", "poison, poison", "0, 0"} {
			checkRunCases(t, enough, []runCase{{"i64", "print 1; %0 = " + op + " i64 " + args + back, stops(impl.EndUndefined, 2, 1)}})
		}
	}
	checkRunCases(t, enough, []runCase{
		{"i8", "%0 = sdiv i8 -128, -1; return i8 %0", stops(impl.EndUndefined, 1)},
		{"i8", "%0 = srem i8 -128, -1; return i8 %0", stops(impl.EndUndefined, 1)},
		{"i8", "%0 = udiv i8 -128, -1; return i8 %0", gives(plain(0), 2)},
	})
}

func TestRunOfSelects(t *testing.T) {
	checkRunCases(t, enough, []runCase{
		{"i64", "%0 = select i64 1, 7, 8; return i64 %0", gives(plain(7), 2)},
		{"i64", "%0 = select i64 0, 7, 8; return i64 %0", gives(plain(8), 2)},
		{"i64", "%0 = select i64 1, 7, poison; return i64 %0", gives(plain(7), 2)},
		{"i64", "%0 = select i64 1, poison, 7; return i64 %0", gives(poisoned, 2)},
		{"i64", "%0 = select i64 0, 7, poison; return i64 %0", gives(poisoned, 2)},
		{"i64", "%0 = select i64 0, poison, 7; return i64 %0", gives(plain(7), 2)},
		{"i64", "%0 = select i64 poison, 7, 7; return i64 %0", gives(poisoned, 2)},
		{"ptr", "%0 = select ptr 1, @g, null; return ptr %0", gives(impl.Value{Object: 1}, 2)},
		{"ptr", "%0 = call ptr @leak(); %1 = select ptr 0, null, %0; return ptr %1", gives(impl.Value{Object: 5}, 6)},
		{"ptr", "%0 = select ptr poison, @g, @g; return ptr %0", gives(poisoned, 2)},
	})
}

// TestRunMissesWhatIsExtern: what an instruction misses is looked for ahead of what it does.
func TestRunMissesWhatIsExtern(t *testing.T) {
	missing := stops(impl.EndMissing, 1)
	checkRunCases(t, impl.Limits{Steps: 10, Depth: 2}, []runCase{
		{"i64", "%0 = call i64 @out(1); return i64 %0", missing},
		{"void", "call void @hush(poison); return", missing},
		{"void", "call void @hush(@far); return", missing},
		{"ptr", "%0 = call ptr @same(@far); return ptr %0", missing},
		{"ptr", "return ptr @far", missing},
		{"i8", "%0 = load i8 @far; return i8 %0", missing},
		{"void", "store i8 1, @far; return", missing},
		{"void", "store ptr @far, null; return", missing},
		{"void", "store ptr poison, @far; return", missing},
		{"ptr", "%0 = offset @far, poison; return ptr %0", missing},
		{"i1", "%0 = cmp eq ptr poison, @far; return i1 %0", missing},
		{"i1", "%0 = cmp eq ptr @far, @far; return i1 %0", missing},
		{"ptr", "%0 = select ptr 1, @g, @far; return ptr %0", missing},
		{"ptr", "%0 = select ptr 0, @far, @g; return ptr %0", missing},
		{"ptr", "%0 = select ptr poison, @g, @far; return ptr %0", missing},
		// Of a phi the argument that is taken, at no step.
		{"ptr", "print 8; jump 1; 1:; %0 = phi ptr [@far, 0]; return ptr %0", stops(impl.EndMissing, 2, 8)},
		{"ptr", "jump 1; 1:; %0 = phi ptr [@g, 0]; %1 = phi ptr [@far, 0]; return ptr %0", missing},
		{"ptr", "branch 1, 1, 2; 1:; jump 3; 2:; jump 3; 3:; %0 = phi ptr [@g, 1], [@far, 2]; return ptr %0", gives(impl.Value{Object: 1}, 3)},
		{"ptr", "branch 0, 1, 2; 1:; jump 3; 2:; jump 3; 3:; %0 = phi ptr [@g, 1], [@far, 2]; return ptr %0", stops(impl.EndMissing, 2)},
		// One that is not come to.
		{"i64", "branch 1, 1, 2; 1:; return i64 1; 2:; store i8 1, @far; return i64 2", gives(plain(1), 2)},
	})
	// Steps go ahead of missing arguments, these ahead of the depth, and the depth ahead of the function that is missing.
	checkRunCases(t, impl.Limits{Steps: 1, Depth: 1}, []runCase{
		{"void", "print 1; store i8 1, @far; return", stops(impl.EndSteps, 1, 1)},
		{"void", "print 1; print poison; return", stops(impl.EndSteps, 1, 1)},
		{"void", "print 1; trap", stops(impl.EndSteps, 1, 1)},
		{"void", "print 1; call void @say(1, 2); return", stops(impl.EndSteps, 1, 1)},
		{"ptr", "jump 1; 1:; %0 = phi ptr [@far, 0]; return ptr %0", missing},
		{"ptr", "jump 1; 1:; %0 = phi ptr [@g, 0]; return ptr %0", stops(impl.EndSteps, 1)},
		{"void", "call void @hush(@far); return", missing},
		{"ptr", "%0 = call ptr @same(@far); return ptr %0", missing},
		{"void", "call void @hush(@g); return", stops(impl.EndDepth, 1)},
		{"ptr", "%0 = call ptr @same(@g); return ptr %0", stops(impl.EndDepth, 1)},
	})
}

// TestRunHasJustSoManySteps: of each number of steps up to what is needed.
func TestRunHasJustSoManySteps(t *testing.T) {
	m := moduleOf(t, around+mainOf("i64", "%0 = call i64 @down(3); print 55; return i64 %0"))
	whole := impl.Run(m, "main", nil, impl.Limits{Steps: 100, Depth: 5})
	prints := []uint64{3, 2, 1, 0, 101, 102, 103, 55}
	if !alike(whole, gives(plain(103), 31, prints...)) {
		t.Fatal("the whole run gives", whole)
	}
	for steps := int64(1); steps < 40; steps++ {
		for depth := int64(1); depth <= 16; depth++ {
			checkRun(t, m, "main", nil, impl.Limits{Steps: steps, Depth: depth})
		}
		got := impl.Run(m, "main", nil, impl.Limits{Steps: steps, Depth: 5})
		if steps >= 31 && !alike(got, whole) || steps < 31 && (got.End != impl.EndSteps || got.Steps != steps || got.Value != plain(0) || !alike(got.Prints, prints[:len(got.Prints)])) {
			t.Error("of", steps, "steps Run gives", got)
		}
	}
	for depth := int64(1); depth <= 16; depth++ {
		got := impl.Run(m, "main", nil, impl.Limits{Steps: 31, Depth: depth})
		if depth >= 5 && !alike(got, whole) || depth < 5 && !alike(got, stops(impl.EndDepth, []int64{1, 6, 11, 16}[depth-1], prints[:depth-1]...)) {
			t.Error("of the depth", depth, "Run gives", got)
		}
	}
}

func TestRunOfTheGreatestLimits(t *testing.T) {
	m := moduleOf(t, around+mainOf("void", "jump 1; 1:; jump 1"))
	inTime(t, "Run", func() {
		if got := impl.Run(m, "main", nil, impl.Limits{Steps: 1000000, Depth: 16}); !alike(got, stops(impl.EndSteps, 1000000)) {
			t.Error("a loop without an end gives", got)
		}
	})
	// A function of many values and much memory, that is called over and over.
	wide := function("wide", 0, block(alloca(256), alloca(256), ret()), block())
	for range 240 {
		wide.Blocks[1].Instrs = append(wide.Blocks[1].Instrs, ins(impl.OpAdd, 64, wordArg(64, 1), wordArg(64, 1)))
	}
	wide.Blocks[1].Instrs = append(wide.Blocks[1].Instrs, ret())
	calls := ofFuncs(function("main", 0, block(jump(1)), block(call(1, 0), jump(1))), wide)
	inTime(t, "Run", func() {
		if got := impl.Run(calls, "main", nil, impl.Limits{Steps: 1000000, Depth: 2}); !alike(got, stops(impl.EndSteps, 1000000)) {
			t.Error("calls without an end give", got)
		}
	})
	inTime(t, "Watch", func() {
		if got := impl.Watch(calls, "main", nil, impl.Limits{Steps: 1000000, Depth: 2}, 1, 1); len(got) != 1000 || got[999] != (impl.Value{Object: 2000}) {
			t.Error("of calls without an end Watch gives", len(got))
		}
	})
	if got := impl.Run(m, "down", []uint64{15}, impl.Limits{Steps: 1000000, Depth: 16}); got.End != impl.EndReturn || got.Value != plain(115) || len(got.Prints) != 31 {
		t.Error("sixteen functions that run at once give", got)
	}
	if got := impl.Run(m, "down", []uint64{16}, impl.Limits{Steps: 1000000, Depth: 16}); got.End != impl.EndDepth || len(got.Prints) != 16 || got.Steps != 16*5 {
		t.Error("seventeen functions that run at once give", got)
	}
}

// countText prints the numbers from 0 on, and then what its end is.
func countText(count int, end string) string {
	return mainOf("void", "jump 1; 1:; %0 = phi i64 [0, 0], [%1, 1]; print %0; %1 = add i64 %0, 1; %2 = cmp ult i64 %1, "+impl.FormatWord(64, uint64(count))+"; branch %2, 1, 2; 2:; "+end)
}

func TestRunPrintsAThousand(t *testing.T) {
	var rising []uint64
	for n := range uint64(1000) {
		rising = append(rising, n)
	}
	for _, c := range []struct {
		count int
		lines string
		want  impl.Outcome
	}{
		{999, "return", gives(plain(0), 1+4*999+1, rising[:999]...)},
		{1000, "return", gives(plain(0), 1+4*1000+1, rising...)},
		{1000, "print 5; return", stops(impl.EndPrints, 1+4*1000+1, rising...)},
		{1000, "print poison; return", stops(impl.EndPrints, 1+4*1000+1, rising...)},
		{1000, "trap", stops(impl.EndTrap, 1+4*1000+1, rising...)},
		{1001, "return", stops(impl.EndPrints, 1+4*1000+1, rising...)},
		{999, "print poison; return", stops(impl.EndUndefined, 1+4*999+1, rising[:999]...)},
	} {
		m := moduleOf(t, around+countText(c.count, c.lines))
		if got := impl.Run(m, "main", nil, enough); !alike(got, c.want) {
			t.Error(c.count, "and", c.lines, "give", got.End, got.Steps, len(got.Prints))
		}
		checkRun(t, m, "main", nil, enough)
	}
}

// badText has functions that can't be an entry, and some that can.
const badText = `func @out extern (i64) i64
func @two strong (i8, i1) i64 {
0:
  return i64 5
}
func @at local (i64, ptr) void {
0:
  return
}
func @no weak () void {
0:
  return
}
`

func TestRunOfWhatIsBad(t *testing.T) {
	m := moduleOf(t, badText)
	most := impl.Limits{Steps: 1000000, Depth: 16}
	for _, c := range []struct {
		name string
		args []uint64
		l    impl.Limits
		bad  bool
	}{
		{"two", []uint64{255, 1}, most, false},
		{"two", []uint64{0, 0}, impl.Limits{Steps: 1, Depth: 1}, false},
		{"two", []uint64{256, 1}, most, true},
		{"two", []uint64{255, 2}, most, true},
		{"two", []uint64{255, 1<<64 - 1}, most, true},
		{"two", []uint64{255}, most, true},
		{"two", []uint64{255, 1, 0}, most, true},
		{"two", nil, most, true},
		{"no", nil, most, false},
		{"no", []uint64{}, most, false},
		{"no", []uint64{0}, most, true},
		{"at", []uint64{1, 0}, most, true},
		{"at", []uint64{1, 1}, most, true},
		{"at", []uint64{1}, most, true},
		{"out", []uint64{1}, most, true},
		{"", nil, most, true},
		{"nothing", nil, most, true},
		{"No", nil, most, true},
		{"@no", nil, most, true},
		{"no ", nil, most, true},
		{"no", nil, impl.Limits{}, true},
		{"no", nil, impl.Limits{Steps: 0, Depth: 16}, true},
		{"no", nil, impl.Limits{Steps: 1, Depth: 0}, true},
		{"no", nil, impl.Limits{Steps: 1000001, Depth: 16}, true},
		{"no", nil, impl.Limits{Steps: 1000000, Depth: 17}, true},
		{"no", nil, impl.Limits{Steps: -1, Depth: 1}, true},
		{"no", nil, impl.Limits{Steps: 1, Depth: -1}, true},
		{"no", nil, impl.Limits{Steps: -1 << 63, Depth: 1<<63 - 1}, true},
		{"no", nil, impl.Limits{Steps: 1<<63 - 1, Depth: 1}, true},
	} {
		got := impl.Run(m, c.name, c.args, c.l)
		if c.bad && !alike(got, stops(impl.EndBad, 0)) || !c.bad && got.End != impl.EndReturn {
			t.Errorf("Run of %q at %v within %v gives %v", c.name, c.args, c.l, got)
		}
		told := checkRun(t, m, c.name, c.args, c.l)
		for fn := range int64(5) {
			checkWatch(t, told, c.name, c.args, fn, 0)
		}
	}
}

// TestRunOfModulesWithAFault: wherever the fault is, be it of another function, and whatever its kind.
func TestRunOfModulesWithAFault(t *testing.T) {
	fine := "func @main strong () void {\n0:\n  print 1\n  return\n}\n"
	for _, text := range []string{
		body("0:\n  jump 0\n"),
		body("0:\n  print %1\n  %1 = add i64 1, 1\n  return\n"),
		body("0:\n  jump 1\n1:\n  return\n2:\n  %1 = phi i64 [0, 0]\n  return\n"),
	} {
		for _, m := range []impl.Module{moduleOf(t, text+fine), moduleOf(t, fine+text)} {
			if got := impl.Run(m, "main", nil, enough); !alike(got, stops(impl.EndBad, 0)) {
				t.Error("beside a fault Run gives", got, text)
			}
			if got := impl.Watch(m, "f", []uint64{1}, enough, 0, 0); len(got) != 0 {
				t.Error("beside a fault Watch gives", got, text)
			}
		}
	}
	for code, m := range wrongShapes(t) {
		want := stops(impl.EndBad, 0)
		if code == 0 {
			want = gives(impl.Value{Object: 4}, 1)
		}
		if got := impl.Run(m, "weak", nil, enough); !alike(got, want) {
			t.Error("of a shape with the fault", code, "Run gives", got)
		}
	}
}
