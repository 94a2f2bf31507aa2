package tests

import (
	"strconv"
	"strings"
	"testing"

	"loop.example/g00010/impl"
)

// undefinedAt is a run that comes to what is undefined at this step.
func undefinedAt(steps int64) impl.Outcome {
	return stops(impl.EndUndefined, steps)
}

func TestRunComparesPointers(t *testing.T) {
	yes, no := plain(1), plain(0)
	for _, c := range []struct {
		lines string
		x, y  string
		equal impl.Value
	}{
		{"", "null", "null", yes},
		{"", "@g", "@g", yes},
		{"", "@g", "@c", no},
		{"", "@g", "null", no},
		{"", "null", "@big", no},
		{"", "poison", "@g", poisoned},
		{"", "null", "poison", poisoned},
		{"", "poison", "poison", poisoned},
		{"%0 = offset @g, 1; ", "%0", "@g", no},
		{"%0 = offset @g, 16; ", "%0", "@c", no},
		{"%0 = offset @g, 0; ", "@g", "%0", yes},
		{"%0 = offset @g, 8; %1 = offset %0, -8; ", "%1", "@g", yes},
		{"%0 = offset @g, 8; %1 = offset @c, 8; ", "%0", "%1", no},
		{"%0 = alloca 1; %1 = alloca 1; ", "%0", "%1", no},
		{"%0 = alloca 1; ", "%0", "%0", yes},
		{"%0 = alloca 1; ", "null", "%0", no},
		{"%0 = call ptr @leak(); ", "%0", "%0", poisoned},
		{"%0 = call ptr @leak(); ", "%0", "null", poisoned},
		{"%0 = call ptr @leak(); ", "@g", "%0", poisoned},
		{"%0 = call ptr @same(@g); ", "@g", "%0", yes},
	} {
		steps := int64(2 + strings.Count(c.lines, ";"))
		if strings.Contains(c.lines, "@leak") {
			steps += 3
		}
		if strings.Contains(c.lines, "@same") {
			steps++
		}
		unequal := c.equal
		if !unequal.Poison {
			unequal.Word ^= 1
		}
		value := "%" + strconv.Itoa(strings.Count(c.lines, ";"))
		checkRunCases(t, enough, []runCase{
			{"i1", c.lines + value + " = cmp eq ptr " + c.x + ", " + c.y + "; return i1 " + value, gives(c.equal, steps)},
			{"i1", c.lines + value + " = cmp ne ptr " + c.x + ", " + c.y + "; return i1 " + value, gives(unequal, steps)},
		})
	}
}

func TestRunMovesPointers(t *testing.T) {
	to := func(object int64, at uint64) impl.Value { return impl.Value{Object: object, Word: at} }
	for _, c := range []struct {
		x, y string
		want impl.Value
	}{
		{"@g", "0", to(1, 0)},
		{"@g", "1", to(1, 1)},
		{"@g", "15", to(1, 15)},
		{"@g", "16", to(1, 16)},
		{"@g", "17", poisoned},
		{"@g", "-1", poisoned},
		{"@g", "-16", poisoned},
		{"@g", "-9223372036854775808", poisoned},
		{"@g", "9223372036854775807", poisoned},
		{"@big", "256", to(4, 256)},
		{"@big", "257", poisoned},
		{"@c", "8", to(2, 8)},
		{"@g", "poison", poisoned},
		{"poison", "0", poisoned},
		{"poison", "1", poisoned},
		{"poison", "poison", poisoned},
		{"null", "0", to(0, 0)},
		{"null", "1", poisoned},
		{"null", "-1", poisoned},
		{"null", "9223372036854775807", poisoned},
		{"null", "-9223372036854775808", poisoned},
		{"null", "poison", poisoned},
	} {
		checkRunCases(t, enough, []runCase{{"ptr", "%0 = offset " + c.x + ", " + c.y + "; return ptr %0", gives(c.want, 2)}})
	}
	for _, c := range []struct {
		first, second string
		want          impl.Value
	}{
		{"16", "0", to(1, 16)},
		{"16", "1", poisoned},
		{"16", "-16", to(1, 0)},
		{"16", "-17", poisoned},
		{"5", "-5", to(1, 0)},
		{"5", "-6", poisoned},
		{"5", "11", to(1, 16)},
		{"5", "12", poisoned},
		{"5", "9223372036854775807", poisoned},
		{"5", "-9223372036854775808", poisoned},
		{"17", "-1", poisoned},
		{"-1", "1", poisoned},
	} {
		checkRunCases(t, enough, []runCase{{"ptr", "%0 = offset @g, " + c.first + "; %1 = offset %0, " + c.second + "; return ptr %1", gives(c.want, 3)}})
	}
	// A pointer into an object that is gone moves as if it were there.
	checkRunCases(t, enough, []runCase{
		{"ptr", "%0 = call ptr @leak(); %1 = offset %0, 8; return ptr %1", gives(to(5, 8), 6)},
		{"ptr", "%0 = call ptr @leak(); %1 = offset %0, 9; return ptr %1", gives(poisoned, 6)},
		{"ptr", "%0 = alloca 3; %1 = offset %0, 3; return ptr %1", gives(to(5, 3), 3)},
		{"ptr", "%0 = alloca 3; %1 = offset %0, 4; return ptr %1", gives(poisoned, 3)},
	})
}

// kinds are the types of what stands in memory, by their names, with something of each.
var kinds = []struct {
	name, size, some string
}{{"i1", "1", "0"}, {"i8", "1", "0"}, {"i16", "2", "0"}, {"i32", "4", "0"}, {"i64", "8", "0"}, {"ptr", "8", "null"}}

func TestRunTouchesWhatIsNotThere(t *testing.T) {
	for _, kind := range kinds {
		// One byte of these lies beyond the object; of the others below, all lie in it.
		beyond := "%0 = alloca 9; %1 = offset %0, 9; %2 = sub i64 1, " + kind.size + "; %3 = offset %1, %2; "
		within := strings.Replace(beyond, "sub i64 1", "sub i64 0", 1)
		for _, c := range []struct {
			ahead, pointer string
			steps          int64
		}{
			{"", "null", 0},
			{"", "poison", 0},
			{"%0 = call ptr @leak(); ", "%0", 4},
			{"%0 = offset @g, 16; ", "%0", 1},
			{"%0 = offset @g, 17; ", "%0", 1},
			{"%0 = offset @g, -1; ", "%0", 1},
			{beyond, "%3", 4},
		} {
			value := "%" + strconv.Itoa(strings.Count(c.ahead, ";"))
			checkRunCases(t, enough, []runCase{
				{"void", c.ahead + "store " + kind.name + " " + kind.some + ", " + c.pointer + "; return", undefinedAt(c.steps + 1)},
				{"void", c.ahead + "store " + kind.name + " poison, " + c.pointer + "; return", undefinedAt(c.steps + 1)},
				{"void", c.ahead + value + " = load " + kind.name + " " + c.pointer + "; return", undefinedAt(c.steps + 1)},
			})
		}
		checkRunCases(t, enough, []runCase{
			{"void", within + "store " + kind.name + " " + kind.some + ", %3; return", gives(plain(0), 6)},
			{kind.name, within + "%4 = load " + kind.name + " %3; return " + kind.name + " %4", gives(poisoned, 6)},
			{"void", "store " + kind.name + " " + kind.some + ", @c; return", undefinedAt(1)},
			{"void", "store " + kind.name + " poison, @c; return", undefinedAt(1)},
		})
	}
}

// loadCase is what stands in memory, from the first byte of a new object of 24 bytes on, and what is loaded from it.
type loadCase struct {
	stores string
	kind   string
	at     string
	want   impl.Value
}

func checkLoads(t *testing.T, list []loadCase) {
	t.Helper()
	for _, c := range list {
		lines, values, steps := "%0 = alloca 24; ", 1, int64(4)
		for _, store := range strings.Split(c.stores, "; ") {
			what, at, _ := strings.Cut(store, " at ")
			value := "%" + strconv.Itoa(values)
			lines += value + " = offset %0, " + at + "; store " + what + ", " + value + "; "
			values, steps = values+1, steps+2
		}
		value, next := "%"+strconv.Itoa(values), "%"+strconv.Itoa(values+1)
		lines += value + " = offset %0, " + c.at + "; " + next + " = load " + c.kind + " " + value + "; return " + c.kind + " " + next
		checkRunCases(t, enough, []runCase{{c.kind, lines, gives(c.want, steps)}})
	}
}

func TestRunLoadsWhatWasStored(t *testing.T) {
	bytes := "i64 578437695752307201 at 0" // 1, 2, .. 8
	checkLoads(t, []loadCase{
		{"i1 1 at 0", "i1", "0", plain(1)},
		{"i1 0 at 0", "i1", "0", plain(0)},
		{"i1 1 at 0", "i8", "0", plain(1)},
		{"i8 1 at 0", "i1", "0", plain(1)},
		{"i8 2 at 0", "i1", "0", poisoned},
		{"i8 -1 at 0", "i1", "0", poisoned},
		{"i8 -2 at 3", "i8", "3", plain(254)},
		{"i16 -2 at 3", "i16", "3", plain(65534)},
		{"i32 -2 at 3", "i32", "3", plain(1<<32 - 2)},
		{"i64 -2 at 3", "i64", "3", plain(1<<64 - 2)},
		{bytes, "i8", "0", plain(1)},
		{bytes, "i8", "7", plain(8)},
		{bytes, "i16", "6", plain(0x0807)},
		{bytes, "i32", "3", plain(0x07060504)},
		{bytes, "i1", "0", plain(1)},
		{bytes, "i1", "1", poisoned},
		{bytes, "i8", "8", poisoned},
		{bytes, "i16", "7", poisoned},
		{bytes, "i64", "1", poisoned},
		{bytes, "ptr", "0", poisoned},
		// Bytes of two stores, and bytes that were stored over.
		{"i16 513 at 0; i16 1027 at 2", "i32", "0", plain(0x04030201)},
		{"i32 0 at 0; i8 -1 at 2", "i32", "0", plain(0x00ff0000)},
		{bytes + "; i16 0 at 3", "i64", "0", plain(0x0807060000030201)},
		{bytes + "; i64 -1 at 4", "i64", "0", plain(0xffffffff04030201)},
		{"i64 0 at 4; " + bytes, "i32", "6", plain(0x0807)},
		{bytes + "; i8 poison at 3", "i32", "0", poisoned},
		{bytes + "; i8 poison at 3", "i16", "1", plain(0x0302)},
		{bytes + "; i8 poison at 3", "i8", "3", poisoned},
		{bytes + "; i1 poison at 3", "i32", "3", poisoned},
		{bytes + "; i32 poison at 3", "i16", "6", poisoned},
		{bytes + "; i32 poison at 3", "i8", "7", plain(8)},
		{bytes + "; ptr poison at 1", "i8", "0", plain(1)},
		{bytes + "; ptr poison at 1", "i8", "1", poisoned},
		{"i8 poison at 0; i8 5 at 0", "i8", "0", plain(5)},
		{"i64 poison at 0; i64 5 at 0", "i64", "0", plain(5)},
	})
}

func TestRunLoadsPointers(t *testing.T) {
	g := impl.Value{Object: 1}
	checkLoads(t, []loadCase{
		{"ptr @g at 0", "ptr", "0", g},
		{"ptr @g at 9", "ptr", "9", g},
		{"ptr null at 0", "ptr", "0", plain(0)},
		{"ptr poison at 0", "ptr", "0", poisoned},
		{"ptr %1 at 8", "ptr", "8", impl.Value{Object: 5, Word: 8}},
		{"ptr %0 at 8", "ptr", "8", impl.Value{Object: 5}},
		{"ptr @g at 0; ptr %1 at 8", "ptr", "8", impl.Value{Object: 5}},
		{"ptr @g at 0; ptr @c at 8", "ptr", "0", g},
		{"ptr @g at 0; ptr @c at 0", "ptr", "0", impl.Value{Object: 2}},
		// Pieces are no numbers, and numbers no pieces, those of null too.
		{"ptr @g at 0", "i64", "0", poisoned},
		{"ptr @g at 0", "i8", "3", poisoned},
		{"ptr null at 0", "i64", "0", poisoned},
		{"ptr null at 0", "i1", "0", poisoned},
		{"i64 0 at 0", "ptr", "0", poisoned},
		{"ptr @g at 0; i8 0 at 7", "ptr", "0", poisoned},
		{"ptr @g at 0; i8 0 at 0", "ptr", "0", poisoned},
		{"ptr null at 0; i8 0 at 7", "ptr", "0", poisoned},
		{"ptr @g at 0; i8 poison at 4", "ptr", "0", poisoned},
		{"i64 0 at 0; ptr @g at 4", "i32", "0", plain(0)},
		{"i64 0 at 0; ptr @g at 4", "i64", "0", poisoned},
		{"i64 0 at 8; ptr @g at 0", "i16", "7", poisoned},
		// Pieces out of order, and of two pointers.
		{"ptr @g at 0; ptr @g at 8", "ptr", "1", poisoned},
		{"ptr @g at 0; ptr @g at 8", "ptr", "4", poisoned},
		{"ptr @g at 0; ptr @g at 4", "ptr", "0", poisoned},
		{"ptr @g at 0; ptr @g at 4", "ptr", "4", g},
		{"ptr @g at 4; ptr @g at 0", "ptr", "0", g},
		{"ptr @g at 1; ptr @c at 2; ptr @g at 10", "ptr", "2", impl.Value{Object: 2}},
		{"ptr @g at 0; ptr @c at 8", "ptr", "4", poisoned},
	})
}

func TestRunKeepsPointersInMemory(t *testing.T) {
	checkRunCases(t, enough, []runCase{
		// A pointer into an object that is gone stays what it is in memory, and so does one beyond the first byte.
		{"ptr", "%0 = alloca 8; %1 = call ptr @leak(); store ptr %1, %0; %2 = load ptr %0; return ptr %2", gives(impl.Value{Object: 6}, 8)},
		{"ptr", "%0 = alloca 8; %1 = offset @g, 16; store ptr %1, %0; %2 = load ptr %0; return ptr %2", gives(impl.Value{Object: 1, Word: 16}, 5)},
		{"ptr", "%0 = alloca 8; store ptr %0, %0; %1 = load ptr %0; %2 = load ptr %1; return ptr %2", gives(impl.Value{Object: 5}, 5)},
	})
}

func TestRunOfGlobals(t *testing.T) {
	checkRunCases(t, enough, []runCase{
		{"i64", "%0 = load i64 @g; return i64 %0", gives(plain(0x0807060504030201), 2)},
		{"i64", "%0 = load i64 @c; return i64 %0", gives(plain(7), 2)},
		{"i64", "%0 = offset @g, 8; %1 = load i64 %0; return i64 %1", gives(plain(0x100f0e0d0c0b0a09), 3)},
		{"i32", "%0 = load i32 @big; return i32 %0", gives(plain(0x0b0a), 2)},
		{"i8", "%0 = offset @big, 255; %1 = load i8 %0; return i8 %1", gives(plain(0), 3)},
		{"ptr", "%0 = offset @big, 128; %1 = load ptr %0; return ptr %1", gives(poisoned, 3)},
		{"i1", "%0 = load i1 @big; return i1 %0", gives(poisoned, 2)},
		{"i8", "store i8 9, @big; %0 = load i8 @big; return i8 %0", gives(plain(9), 3)},
		{"i8", "store i8 9, @big; %0 = load i8 @g; return i8 %0", gives(plain(1), 3)},
		{"ptr", "%0 = load ptr @big; return ptr %0", gives(poisoned, 2)},
		{"i16", "%0 = offset @g, 15; store i8 -1, %0; %1 = load i16 @c; return i16 %1", gives(plain(7), 4)},
	})
	// A run begins with the globals as they stand in the module, whatever another run has stored.
	m := moduleOf(t, around+mainOf("i8", "%0 = load i8 @big; store i8 9, @big; return i8 %0"))
	for range 3 {
		if got := impl.Run(m, "main", nil, enough); !alike(got, gives(plain(10), 3)) {
			t.Error("a run after another one gives", got)
		}
	}
}

// nestText calls itself down to 0, and each call but the last looks at its own object behind that.
const nestText = `func @nest strong (i64) ptr {
0:
  %1 = alloca 8
  store i64 %0, %1
  %2 = cmp eq i64 %0, 0
  branch %2, 2, 1
1:
  %3 = sub i64 %0, 1
  %4 = call ptr @nest(%3)
  %5 = load i64 %1
  print %5
  %6 = cmp ne ptr %4, null
  return ptr %4
2:
  return ptr %1
}
`

// TestRunKeepsObjectsApart: those of a function that calls itself.
func TestRunKeepsObjectsApart(t *testing.T) {
	l := impl.Limits{Steps: 1000, Depth: 5}
	const steps = 2 + 3*10 + 5
	for _, c := range []runCase{
		{"ptr", "%0 = alloca 8; %1 = call ptr @nest(3); return ptr %1", gives(impl.Value{Object: 5}, steps+1, 1, 2, 3)},
		{"ptr", "%0 = alloca 8; %1 = call ptr @nest(3); %2 = alloca 8; return ptr %2", gives(impl.Value{Object: 6}, steps+2, 1, 2, 3)},
		{"i64", "%0 = alloca 8; %1 = call ptr @nest(3); %2 = load i64 %1; return i64 %2", stops(impl.EndUndefined, steps+1, 1, 2, 3)},
		{"i64", "%0 = alloca 8; %1 = call ptr @nest(3); %2 = alloca 8; store i64 4, %0; %3 = load i64 %2; return i64 %3", gives(poisoned, steps+4, 1, 2, 3)},
		{"i64", "%0 = alloca 8; store i64 4, %0; %1 = call ptr @nest(3); %2 = load i64 %0; return i64 %2", gives(plain(4), steps+3, 1, 2, 3)},
	} {
		m := moduleOf(t, nestText+mainOf(c.result, c.lines))
		if got := impl.Run(m, "main", nil, l); !alike(got, c.want) {
			t.Errorf("%s: Run gives %v, not %v", c.lines, got, c.want)
		}
		checkRun(t, m, "main", nil, l)
		// Where the pointer comes back, its object is gone.
		if seen := impl.Watch(m, "main", nil, l, 0, 6); !alike(seen, []impl.Value{poisoned, poisoned, poisoned}) {
			t.Error("the compares of what is gone give", seen)
		}
		if seen := impl.Watch(m, "main", nil, l, 0, 1); !alike(seen, []impl.Value{{Object: 2}, {Object: 3}, {Object: 4}, {Object: 5}}) {
			t.Error("the objects are", seen)
		}
	}
}
