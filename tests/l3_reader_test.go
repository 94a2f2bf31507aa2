package tests

import (
	"fmt"
	"runtime"
	"strings"
	"testing"
	"unsafe"

	"loop.example/g00010/impl"
)

// checker bends fullText: at the first place where a piece stands another one is put, and must not be taken.
func checker(t *testing.T) func(piece string, others ...string) {
	return func(piece string, others ...string) {
		t.Helper()
		if !strings.Contains(fullText, piece) {
			t.Fatalf("%q does not stand in the text", piece)
		}
		for _, other := range others {
			bent := strings.Replace(fullText, piece, other, 1)
			if bent == fullText || checkRead(t, bent) {
				t.Errorf("%q in place of %q is taken", other, piece)
			}
		}
	}
}

// TestBlanksAndMarks: blanks and line feeds more or fewer, and other marks.
func TestBlanksAndMarks(t *testing.T) {
	check := checker(t)
	check("global @table", "global  @table", "global\t@table", " global @table", "\nglobal @table", "global@table", "global table", "global @@table", "global %table", "\ufeffglobal @table", "#\nglobal @table")
	check("fixed 4 01020304\n", "fixed 4  01020304\n", "fixed 4 01020304 \n", "fixed 4 01020304\n\n", "fixed 4 01020304\r\n", "fixed 4 01020304;\n", "fixed 4 01020304", "fixed 4 01 02 03 04\n", "fixed 4, 01020304\n", "fixed 401020304\n")
	check("extern 8\n", "extern 8 \n", "extern  8\n", "extern 8\n \n", "extern (8)\n")
	check("(i64, ptr)", "(i64,ptr)", "( i64, ptr)", "(i64, ptr )", "(i64 , ptr)", "(i64 ptr)", "i64, ptr", "(i64, ptr,)", "(i64, ptr, )", "(, i64, ptr)", "[i64, ptr]", "((i64, ptr))", "(i64), (ptr)", "(i64,  ptr)")
	check("() ptr {", "( ) ptr {", "()ptr {", "() ptr{", "() ptr  {", "() ptr { ", "() ptr", "() ptr\n{", "() ptr {\n", "() ptr {{", "() ptr :", "ptr {", "(void) ptr {", "() = ptr {")
	check("ptr) i64\n", "ptr) i64 {\n}\n", "ptr) i64 {}\n", "ptr) i64 {\n", "ptr) i64 \n", "ptr) i64;\n", "ptr) i64\n}\n")
	check("0:\n", " 0:\n", "0 :\n", "0: \n", "0\n", "0::\n", "0:", "0:\n\n", "  0:\n", "0=\n", "[0]:\n", "0,\n", "%0:\n", "block 0:\n")
	check("}\n", " }\n", "} \n", "}}\n", "}\n}\n", "{\n", "}\n\n", "}", "", "\n", "  }\n", ")\n")
	check("  trap\n", " trap\n", "   trap\n", "\ttrap\n", "trap\n", "  trap \n", "  trap()\n", "  trap,\n", "\n  trap\n", "  trap trap\n", "  trap 1\n", "    trap\n")
	check("%4 = alloca 16", "%4= alloca 16", "%4 =alloca 16", "%4  = alloca 16", "%4 =  alloca 16", "%4 alloca 16", "alloca 16", "%4 : alloca 16", "%4 == alloca 16", "%4 = alloca  16", "%4 = alloca(16)", "4 = alloca 16", "= alloca 16", "%4 = %4 = alloca 16", "%4 = alloca 16 ", "%4 := alloca 16")
	check("i64 %0, 1\n", "i64 %0,1\n", "i64 %0 , 1\n", "i64 %0 1\n", "i64 % 0, 1\n", "i64 %0, 1,\n", "i64 %0, 1, \n", "i64 (%0, 1)\n", "i64, %0, 1\n", "i64 %0,  1\n", "i64 %0; 1\n", "i64 %0, 1 \n", "i64  %0, 1\n", "i64 %0, , 1\n", "i64 [%0, 1]\n", "i64 %0, 1, 1\n", "i64 %0\n", "i64\n", "\n", "i64 %0, i64 1\n")
	check("call void @tell(%3)", "call void @tell (%3)", "call void @tell( %3)", "call void @tell(%3 )", "call void @tell %3", "call void @tell[%3]", "call void @tell((%3))", "call void @tell(%3", "call void @tell%3)", "call void @tell(%3,)", "call void @tell(%3))", "call void tell(%3)", "call void @@tell(%3)", "call void@tell(%3)", "call  void @tell(%3)", "call void %tell(%3)", "call void = @tell(%3)")
	check("@weak()", "@weak", "@weak( )", "@weak(,)", "@weak(", "@weak)", "@weak()()", "@weak{}")
	check("[%0, 0], [", "[ %0, 0], [", "[%0,0], [", "[%0 0], [", "(%0, 0), [", "%0, 0, [", "[%0, 0] [", "[%0, 0],[", "[%0: 0], [", "[%0, 0, ", "[[%0, 0], [", "[%0, 0 ], [", "[%0, 0], , [", "[%0], [")
	check("2, 0: 3, -1: 4, 7: 3", "2, 0:3, -1: 4, 7: 3", "2, 0 : 3, -1: 4, 7: 3", "2, 0: 3,-1: 4, 7: 3", "2, 0, 3, -1, 4, 7, 3", "2, [0: 3], -1: 4, 7: 3", "2 0: 3, -1: 4, 7: 3", "2: 0, 3: -1, 4: 7, 3", "2, 0: 3, -1: 4, 7: 3,", "2, 0: 3, - 1: 4, 7: 3", "2, 0: 3, -1: 4, 7", "2, 0: 3, -1: 4, 7:", "0: 3, -1: 4, 7: 3, 2", "2, 0= 3, -1: 4, 7: 3")
	check("i64 %31, 5", "i64 %31, 5,", "i64 %31, 5, ", "i64 %31, 5:", "i64 %31 5", "i64 %31", "i64 %31,")
	check("return\n", "return \n", "return void\n", "return void \n", "return ()\n", "return;\n", "return,\n")
	check("return i64 %33", "return i64, %33", "return %33", "return i64(%33)", "return (i64) %33", "return i64")
	check("i8 %2 to i16", "i8 %2, i16", "i8 %2 i16", "i8 %2 To i16", "i8 %2 to to i16", "i8 %2 toi16", "i8 %2, to i16", "i8 %2 to  i16", "i8 %2 fixed i16", "i16 %2", "i8 %2 to i16 to i32")
}

// TestNumbersInOtherForms: needless zeros, signs, other digits, numbers that are too great.
func TestNumbersInOtherForms(t *testing.T) {
	check := checker(t)
	check("extern 8\n", "extern 08\n", "extern +8\n", "extern -8\n", "extern 0x8\n", "extern 8.0\n", "extern 8e0\n", "extern 0\n", "extern 257\n", "extern 18446744073709551624\n", "extern %8\n", "extern \u0668\n", "extern \uff18\n", "extern\n")
	check("01020304", "0102030A", "0102030", "010203040", "0102030g", "0x010203", "01020304 05", "0102030405", "+1020304", "010203-4", "01_0203", "0102030\xff", "010203\u0660")
	check("weak 16 09", "weak 16 9", "weak 16 0009z", "weak 16 0", "weak 16 090", "weak 0010 09", "weak 1_6 09", "extern 16 09", "weak 16 "+strings.Repeat("09", 17), "weak 16 0G", "weak 16 1A", "weak 16 FF")
	check("alloca 16", "alloca 016", "alloca +16", "alloca -16", "alloca 0x10", "alloca 1_6", "alloca 16.0", "alloca 0", "alloca 257", "alloca 99999999999999999999", "alloca %16", "alloca ptr 16", "alloca i64 16", "alloca sixteen", "alloca")
	check("0:\n", "00:\n", "+0:\n", "-0:\n", "0x0:\n", "1:\n", "-1:\n", "40:\n")
	check("%4 = alloca", "%04 = alloca", "%+4 = alloca", "%-4 = alloca", "%3 = alloca", "%5 = alloca", "%44 = alloca", "%0 = alloca", "% = alloca", "%x = alloca", "%% = alloca", "@4 = alloca")
	check("i64 %0, 1\n", "i64 %0, 01\n", "i64 %0, +1\n", "i64 %00, 1\n", "i64 %-0, 1\n", "i64 %+0, 1\n", "i64 %0, 0x1\n", "i64 %0, 1.\n", "i64 %0, -0\n", "i64 %0, 9223372036854775808\n", "i64 %0, -9223372036854775809\n", "i64 %0, one\n", "i64 %, 1\n", "i64 %%0, 1\n", "i64 %0, %\n", "i64 %18446744073709551616, 1\n")
	check("i8 %2, -1", "i8 %2, 255", "i8 %2, - 1", "i8 %2, -01", "i8 %2, --1", "i8 %2, -257", "i8 %2, 128", "i8 %2, -129", "i8 %2, 4294967295", "i8 %2, 18446744073709551615", "i8 %2, -")
	check("i1 %3, 1\n", "i1 %3, -1\n", "i1 %3, true\n", "i1 %3, 2\n", "i1 %3, 01\n")
	check("[%0, 0]", "[%0, 00]", "[%0, +0]", "[%0, -0]", "[%0, 6]", "[%0, -1]", "[%0, 4294967296]", "[%0, %0]", "[%00, 0]")
	check("-1: 4, 7: 3", "-1: 04, 7: 3", "-1: +4, 7: 3", "-1: 6, 7: 3", "255: 4, 7: 3", "-01: 4, 7: 3", "7: 4, 7: 3", "0: 4, 7: 3", "-1: 4, 07: 3", "-1: 4, 128: 3", "-1: 4, %7: 3", "-1: 4, null: 3", "-1: 4, poison: 3")
	check("jump 5", "jump 05", "jump +5", "jump -1", "jump 6", "jump %5", "jump 5.", "jump @5", "jump", "jump 5, 5")
	check("branch %3, 1, 2", "branch %3, 01, 2", "branch %3, 1, 6", "branch %3, 1", "branch %3", "branch", "branch %3, 1, 2, 3", "branch i1 %3, 1, 2", "branch 2, 1, 2", "branch -1, 1, 2")
}

// TestOtherOrders: words, lines, globals, functions, blocks and values in another order, or more and fewer of them.
func TestOtherOrders(t *testing.T) {
	check := checker(t)
	check("add nuw nsw i64", "add nsw nuw i64", "add nuw nsw nuw i64", "add nsw nsw i64", "add nuw nuw nsw i64", "add i64 nuw nsw", "nuw nsw add i64", "add nuw nsw exact i64", "add exact i64", "add NUW nsw i64", "add nuw, nsw i64", "add nuw|nsw i64", "add nuwnsw i64")
	check("udiv exact i8", "udiv exact exact i8", "udiv nuw i8", "udiv nsw exact i8", "udiv i8 exact", "udiv Exact i8")
	check("urem i8", "urem exact i8", "urem nuw i8", "urem nsw i8", "Urem i8", "rem i8", "i8 urem", "fadd i8", "i8")
	check("cmp sge i8", "cmp i8 sge", "sge cmp i8", "cmp sge nuw i8", "cmp i8", "cmp sge", "cmp ge i8", "cmp SGE i8", "cmp sge i1 i8", "cmp 10 i8", "cmp eq i1", "cmp sge void")
	check("strong fixed 4", "fixed strong 4", "strong 4 fixed", "strong fixed fixed 4", "fixed 4", "strong strong fixed 4", "strong Fixed 4", "strong fixed strong 4", "1 fixed 4")
	check("fixed 4 01020304", "fixed 01020304 4", "fixed 01020304", "fixed 4 4 01020304", "fixed 3 01020304")
	check("@far extern 8", "extern @far 8", "@far 8", "@far", "@far extern 8 00", "@table extern 8", "far extern 8", "@1far extern 8", "@far-off extern 8", "@far Extern 8", "@far external 8", "@ extern 8", "@abcdefghijklmnopqrstuvwxy extern 8", "@f\u00e9 extern 8")
	check("global @own.g local 256\nfunc @help extern (i64, ptr) i64\n", "func @help extern (i64, ptr) i64\nglobal @own.g local 256\n", "global @own.g local 256\nglobal @own.g local 256\nfunc @help extern (i64, ptr) i64\n", "global @own.g local 256\nfunc @help extern (i64, ptr) i64\nfunc @help extern (i64, ptr) i64\n")
	check("func @own local", "func local @own", "local func @own", "@own func local", "func @own", "func local", "func @own local fixed", "Func @own local", "fn @own local", "func @own extern", "func @spare local", "func @every local")
	check("(i1) void", "void (i1)", "(i1, void) void", "(void) void", "(i1) void void", "(i2) void", "(i1)", "(i1) none", "(i1, i1, i1, i1, i1, i1, i1) void", "(I1) void", "(1) void")
	check("  %4 = alloca 16\n  %5 = alloca 256\n", "  %5 = alloca 256\n  %4 = alloca 16\n", "  %4 = alloca 16\n  %4 = alloca 256\n", "  %4 = alloca 16\n  %6 = alloca 256\n", "  %4 = alloca 256\n", "  %4 = alloca 16  %5 = alloca 256\n")
	check("  print %28", "  %31 = print %28", "  %30 = print %28", "  print %28\n  print", "  print i64 %28", "  print %28, %28", "  print", "  %28 = print %28", "  print\n  %28")
	check("  call void", "  %29 = call void", "  call i1", "  call", "  call i64 void")
	check("  store i32 %26, @far", "  %27 = store i32 %26, @far", "  store %26, @far", "  store i32 %26, i32 @far", "  store i64 %26, @far", "  store i32 @far, %26", "  store void %26, @far", "  store i32 %26")
	check("1:\n", "2:\n", "", "1:\n1:\n", "0:\n", "01:\n", "7:\n", "1:\n2:\n")
	check("3:\n  jump 5\n4:\n  trap\n", "4:\n  jump 5\n3:\n  trap\n", "4:\n  trap\n3:\n  jump 5\n", "3:\n4:\n  jump 5\n  trap\n", "3:\n  jump 5\n4:\n", "  jump 5\n4:\n  trap\n", "3:\n  jump 5\n  trap\n4:\n  trap\n", "3:\n  jump 5\n4:\n  print 1\n")
	check("}\nfunc @weak weak () ptr {\n0:\n", "func @weak weak () ptr {\n0:\n", "}\nfunc @weak weak () ptr {\n", "}\n0:\nfunc @weak weak () ptr {\n", "}\n  trap\nfunc @weak weak () ptr {\n0:\n", "}\nfunc @weak weak () ptr {\n}\n0:\n", "}\nfunc @weak weak () ptr {\n0:\n}\n")
	check("  return ptr @own.g\n}\n", "  return ptr @own.g\n", "  return ptr @own.g", "}\n", "  return ptr @own.g\n}\n  trap\n", "  return ptr @own.g\n}\n1:\n", "  return ptr @own.g\n}\n\x00", "  return ptr @own.g\n}\n@", "  return ptr @own.g\n}\n%")
}

// TestWrongNamesAndTypes: names that are not defined, operands and results of a wrong type.
func TestWrongNamesAndTypes(t *testing.T) {
	check := checker(t)
	check("store i32 %26, @far", "store i32 %26, @fat", "store i32 %26, @fa", "store i32 %26, @farr", "store i32 %26, @help", "store i32 %26, @every", "store i32 %26, @Far", "store i32 %26, @", "store i32 %26, far", "store i32 %26, 0", "store i32 %26, %0", "store i32 %26, %99", "store i32 @far, @far", "store i32 null, @far", "store i32 %25, @far", "store i33 %26, @far", "store ptr %26, @far")
	check("@help(%0, %27)", "@helper(%0, %27)", "@table(%0, %27)", "@far(%0, %27)", "@(%0, %27)", "@help(%0, %0)", "@help(%27, %0)", "@help(%0)", "@help(%0, %27, %27)", "@help()", "@help(%0, 0)", "@help(null, null)", "@tell(%0, %27)", "@help(%0, %2)", "@help(%0, %64)")
	check("= call i64 @help", "= call void @help", "= call ptr @help", "= call i32 @help", "= call @help", "= call i64 i64 @help")
	check("call ptr @weak()", "call i64 @weak()", "call void @weak()", "call ptr @weak(null)", "call ptr @own.g()")
	check("sub nsw i64 %0, %6", "sub nsw i64 %0, %2", "sub nsw i64 %1, %6", "sub nsw i32 %0, %6", "sub nsw ptr %0, %6", "sub nsw void %0, %6", "sub nsw i64 %0, @table", "sub nsw i64 null, %6", "sub nsw i64 %0, %34", "sub nsw i64 %0, %-1", "sub nsw i64 %0, %9223372036854775807", "sub nsw i64", "sub nsw", "sub")
	check("cmp eq ptr %1, null", "cmp ult ptr %1, null", "cmp sge ptr %1, null", "cmp eq i64 %1, null", "cmp eq ptr %0, null", "cmp eq ptr %1, 0", "cmp eq ptr %1", "cmp eq ptr", "cmp eq")
	check("select ptr %3, %1, @table", "select ptr %2, %1, @table", "select i64 %3, %1, @table", "select ptr %3, %1, %0", "select ptr %3, %1", "select i1 %3, ptr %1, @table", "select ptr 2, %1, @table", "select ptr %1, %3, @table")
	check("zext i8 %2 to i16", "zext i8 %2 to i8", "zext i8 %2 to i1", "zext i8 %2 to ptr", "zext i64 %0 to i16", "zext i16 %2 to i32", "trunc i8 %2 to i16", "zext i8 %3 to i16", "zext i8 %2 to void", "zext ptr %1 to i16", "zext")
	check("phi i64 [%0, 0], [%29, 1]", "phi i64 [%1, 0], [%29, 1]", "phi i64 [%0, 0], [%32, 1]", "phi i64", "phi", "phi void [%0, 0]", "phi ptr [%0, 0], [%29, 1]", "phi i64 [null, 0], [%29, 1]", "phi i64 []", "phi i64 [%0, 0], []")
	check("load i32 %1", "load i32 %0", "load void %1", "load i32 i32 %1", "load %1", "load i32", "load ptr, %1", "load i32 7", "load i24 %1")
	check("offset @own.g, %0", "offset %0, @own.g", "offset @own.g, %2", "offset @own.g", "offset ptr @own.g, %0", "offset @own.g, @own.g", "offset @own.g, i64 %0", "offset @own, %0")
	check("print %28", "print %27", "print %2", "print @table", "print null", "print call", "print %31 %28", "print %")
	check("branch %3, 1, 2", "branch %2, 1, 2", "branch %0, 1, 2", "branch null, 1, 2", "branch @table, 1, 2", "branch 1, 2")
	check("switch i8 %2", "switch i64 %2", "switch i8 %0", "switch ptr %1", "switch %2", "switch i1 %3", "switch i8 %2, %2")
	check("return i64 %33", "return", "return i8 %2", "return i64 %2", "return void", "return ptr null", "return i64 null")
	check("0:\n  return\n", "0:\n  return i64 1\n", "0:\n  return i1 %0\n", "0:\n  Return\n", "0:\n  ret\n")
}

// TestTextsThatAreTaken differ by little from others that are not; each row has pieces and what is put in their places.
func TestTextsThatAreTaken(t *testing.T) {
	for _, row := range [][]string{
		{"fixed 4 01020304", "fixed 3 abcdef"}, {"fixed 4 01020304", "4 01020304"}, {"fixed 4 01020304", "fixed 4"}, {"strong fixed 4 01020304", "extern fixed 4"}, {"weak 16", "local 16"},
		{"i64 %0, 1\n", "i64 1, %0\n"}, {"%0, 1\n", "%0, -9223372036854775808\n"}, {"mul nuw i8", "mul nsw i8"}, {"add nuw nsw", "add nuw"}, {"udiv exact", "udiv"}, {"sge i8", "ult i8"},
		{"[%0, 0], [%29, 1]", "[%29, 0], [poison, 5], [%0, 0]"}, {"i8 %2, 2, 0: 3, -1: 4, 7: 3", "i8 poison, 5"}, {"-1: 4", "-128: 4"}, {"jump 5", "jump 0"}, {"trap", "return i64 %33"},
		{"@tell(%3)", "@tell(poison)"}, {"@own.g\n}", "null\n}"}, {"store ptr null, %4", "store ptr %4, %4"}, {"(i1) void", "(i1) void\nfunc @last extern () ptr"}, {"(i1) void", "(i8) void", "@tell(%3)", "@tell(%2)"},
		{"func @tell extern (i1) void\n", "", "  return ptr @own.g\n}\n", "  return ptr @own.g\n}\nfunc @tell extern (i1) void\n"},
	} {
		text := fullText
		for n := 0; n < len(row); n += 2 {
			text = strings.Replace(text, row[n], row[n+1], 1)
		}
		if text == fullText || !checkRead(t, text) {
			t.Errorf("%q is not taken", row)
		}
	}
}

func TestTextsCutAtEachByte(t *testing.T) {
	for _, c := range []struct {
		text         string
		heads, tails int
	}{{fullText, 6, 1}, {exampleText, 2, 1}, {"global @a weak 1\nglobal @b weak 1\n", 1, 2}} {
		heads, tails := 0, 0
		for at := range len(c.text) {
			if checkRead(t, c.text[:at]) {
				heads++
			}
			if checkRead(t, c.text[at:]) {
				tails++
			}
		}
		if heads != c.heads || tails != c.tails {
			t.Error("of the cut texts", heads, "and", tails, "are a module's, not", c.heads, "and", c.tails)
		}
	}
}

// TestTextsWithOneByteTurned puts other bytes at each place, and each byte into a short text.
func TestTextsWithOneByteTurned(t *testing.T) {
	t.Parallel()
	goods := 0
	for at := range len(fullText) {
		for _, b := range []byte(" \n019af,:)]}@%-+=.A\x00\xff") {
			if checkRead(t, fullText[:at]+string([]byte{b})+fullText[at+1:]) {
				goods++
			}
		}
	}
	short := "global @g weak 2 00\nfunc @f weak (i1) i8 {\n0:\n  return i8 -1\n}\n"
	for at := range len(short) {
		for b := range 256 {
			checkRead(t, short[:at]+string([]byte{byte(b)})+short[at+1:])
		}
		checkRead(t, short[:at]+short[at+1:])
	}
	if !checkRead(t, short) || goods < 500 {
		t.Error("of the turned texts", goods, "are a module's")
	}
}

// textOfLength is that of a module whose phi has as many arguments, and whose name has as many bytes, as it needs.
func textOfLength(t *testing.T, length int) string {
	t.Helper()
	const pair = ", [0, 0]"
	f := function("", 0, block(phi(1, []int64{0}, wordArg(1, 0)), trap()))
	rest := length - len(wantText(ofFuncs(f)))
	count := (rest - 1) / len(pair)
	f.Name = strings.Repeat("n", rest-count*len(pair))
	i := &f.Blocks[0].Instrs[0]
	for range count {
		i.Args, i.Blocks = append(i.Args, wordArg(1, 0)), append(i.Blocks, 0)
	}
	m := ofFuncs(f)
	text := impl.FormatModule(m)
	if len(text) != length || text != wantText(m) || wantFault(m) != (impl.Fault{}) {
		t.Fatal("the text has", len(text), "bytes, not", length)
	}
	checkRoundTrip(t, m)
	return text
}

func TestTextsOfMaxText(t *testing.T) {
	t.Parallel()
	for length := impl.MaxText - 9; length <= impl.MaxText+9; length++ {
		if got := impl.ParseModule(textOfLength(t, length)); got.Good != (length <= impl.MaxText) {
			t.Error("a text of", length, "bytes:", got.Good)
		}
	}
	textOfLength(t, 3*impl.MaxText)
}

// manyLines is a module of as many functions, each of as many calls.
func manyLines(funcs, lines int) impl.Module {
	var m impl.Module
	for n := range impl.MaxGlobals {
		m.Globals = append(m.Globals, impl.Global{Name: fmt.Sprintf("global_of_a_long_name_%02d", n), Link: impl.LinkWeak, Size: 256, Bytes: make([]byte, 256)})
	}
	for n := range funcs {
		f := function(fmt.Sprintf("func_with_a_long_name_%02d", n), impl.TypePtr, impl.Block{})
		f.Params = []int64{65, 65, 65, 65, 65, 65}
		for at := range lines {
			f.Blocks[0].Instrs = append(f.Blocks[0].Instrs, call(int64(at%funcs), 65, globalArg(1), globalArg(2), globalArg(3), valueArg(65, int64(at)), globalArg(5), nullArg()))
		}
		f.Blocks[0].Instrs = append(f.Blocks[0].Instrs, ret(globalArg(11)))
		m.Funcs = append(m.Funcs, f)
	}
	return m
}

// TestTextsOfManyLines: of modules that have as much of all as there may be, whose texts are longer than what is read.
func TestTextsOfManyLines(t *testing.T) {
	t.Parallel()
	longer := 0
	for funcs := 1; funcs <= impl.MaxFuncs; funcs++ {
		for _, lines := range []int{9, 100, impl.MaxInstrs - 1} {
			m := manyLines(funcs, lines)
			checkRoundTrip(t, m)
			if len(impl.FormatModule(m)) > impl.MaxText {
				longer++
			}
		}
	}
	if longer < 5 || longer > 20 {
		t.Error("of the texts", longer, "are longer than what is read")
	}
}

// memoryOf is how many bytes an answer takes on its way; no other test may run beside it.
func memoryOf(ask func()) uint64 {
	var before, behind runtime.MemStats
	runtime.ReadMemStats(&before)
	ask()
	runtime.ReadMemStats(&behind)
	return behind.TotalAlloc - before.TotalAlloc
}

// TestTextsOfAnything: the reader answers whatever it is given, and without much ado.
func TestTextsOfAnything(t *testing.T) {
	const enough = 100 << 20
	fill := func(head, piece string) string {
		return head + strings.Repeat(piece, (impl.MaxText-len(head))/len(piece))
	}
	wide := "func @f local (" + strings.Repeat("i1,", 30000) + ") void\n0:\n"
	for _, text := range []string{
		" ", "\n", "\n\n", "}", "}\n", "0:\n", "  trap\n", "%", "@", "@\n", "global", "global\n", "global @g\n", "global @g weak\n", "func", "func\n", "func @f\n", "func @f weak\n", "func @f weak {\n", "func @f weak {\n0:\n%\n}\n",
		"func @f weak () void {\n0:\n  call\n}\n", "func @f weak () void {\n0:\n  %0 = \n}\n", "func @f weak () void {\n0:\n  switch\n}\n", "func @f weak () void {\n  trap\n0:\n  trap\n}\n", "func @f weak () void {\n}\n", "func @f weak () void {\n0:\n}\n",
		"global @g weak 4\n\x00", "\x00", "\xff\xfe", "\u2028", "%0", "\xe2\x82", "global @g weak 1\u00a0\n",
		fill("", "\n"), fill("", " "), fill("", "0:\n"), fill("", "global\n"), fill("", "func\n"), fill("", "x"), fill("", "\xff"), fill("", "\u00e9"), fill("", "1"), fill("", "}\n"), fill("", ","),
		fill("func @f weak () void {\n0:\n", "trap\n"), fill("func @f weak () void {\n", "0:\n"), fill("func @f weak () void {\n0:\n", "call\n"), fill("func @f weak () void {\n0:\nphi i1 ", "[0,0]"), fill("func @f weak () void {\n0:\nswitch i64 0 0 ", "1 0 "), fill("global @g weak 4 ", "0"),
		fill("func @f weak () void {\n0:\nadd ", "nuw "), fill(wide, "call\n"), fill(wide, "call void @f\n"), fill(wide, "a\n"), fill("", "func @f local () void {\n0:\n  trap\n}\n"), fill("", "global @g weak 4\n"), strings.Repeat("\n", 5000000),
	} {
		var got impl.ReadResult
		taken := memoryOf(func() { got = impl.ParseModule(text) })
		if !alike(got, impl.ReadResult{}) {
			t.Errorf("%.60q is taken", text)
		}
		if taken > enough {
			t.Errorf("%.60q takes %d bytes", text, taken)
		}
	}
}

// TestNamesThatAreRead are memory of their own: they do not hold on to the text.
func TestNamesThatAreRead(t *testing.T) {
	text := strings.Clone(fullText)
	from := uintptr(unsafe.Pointer(unsafe.StringData(text)))
	m := impl.ParseModule(text).Module
	var names []string
	for _, g := range m.Globals {
		names = append(names, g.Name)
	}
	for _, f := range m.Funcs {
		names = append(names, f.Name)
	}
	if len(names) != 9 {
		t.Error("names", names)
	}
	for _, name := range names {
		if at := uintptr(unsafe.Pointer(unsafe.StringData(name))); at >= from && at < from+uintptr(len(text)) {
			t.Error(name, "lies in the text")
		}
	}
}
