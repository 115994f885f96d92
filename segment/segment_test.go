package segment_test

import (
	"slices"
	"strings"
	"testing"

	"concordat/api"
	"concordat/segment"
)

func seg(key, text string) api.Segment { return api.Segment{Key: key, Text: text} }

// P28.1
func TestSplit(t *testing.T) {
	for text, want := range map[string][]api.Segment{
		"":                        {seg("$", "")},
		" // x\n":                 {seg("$", " // x\n")},
		"class A{}":               {seg("A{", "class A{"), seg("A}", "}"), seg("$", "")},
		"class A { int f; } // x": {seg("A{", "class A {"), seg("A.f", " int f;"), seg("A}", " }"), seg("$", " // x")},
		" class A extends B{}\n":  {seg("A{", " class A extends B{"), seg("A}", "}"), seg("$", "\n")},
		"class A{}class B{}":      {seg("A{", "class A{"), seg("A}", "}"), seg("B{", "class B{"), seg("B}", "}"), seg("$", "")},
		"class A{int m(){{}} static A f;void m2(int a){}}": {seg("A{", "class A{"), seg("A.m()", "int m(){{}}"), seg("A.f", " static A f;"), seg("A.m2()", "void m2(int a){}"), seg("A}", "}"), seg("$", "")},
		"/*{*/class/*{*/A/*{*/\n//{\n{/*}*/int f/*;*/;//1\nint g;/*}*/}//}\nclass C{}": {
			seg("A{", "/*{*/class/*{*/A/*{*/\n//{\n{"), seg("A.f", "/*}*/int f/*;*/;"), seg("A.g", "//1\nint g;"), seg("A}", "/*}*/}"), seg("C{", "//}\nclass C{"), seg("C}", "}"), seg("$", "")},
		"class A extends /*{*/ B /*{ **/ //{{\n{}": {seg("A{", "class A extends /*{*/ B /*{ **/ //{{\n{"), seg("A}", "}"), seg("$", "")},
		"class A//{\r\n{ }":                        {seg("A{", "class A//{\r\n{"), seg("A}", " }"), seg("$", "")},
		"class A{int f;int f;}class A{}":           {seg("A{", "class A{"), seg("A.f", "int f;"), seg("A.f", "int f;"), seg("A}", "}"), seg("A{", "class A{"), seg("A}", "}"), seg("$", "")},
		"class A{int m(){return x;}}":              {seg("A{", "class A{"), seg("A.m()", "int m(){return x;}"), seg("A}", "}"), seg("$", "")},
		"class A/*/{*/{}":                          {seg("A{", "class A/*/{*/{"), seg("A}", "}"), seg("$", "")},
	} {
		got, m := segment.Split(text)
		if !slices.Equal(got, want) || m != (api.Mistake{}) {
			t.Errorf("Split(%q) = %v, %v, want %v", text, got, m, want)
		}
		if joined := segment.Join(got); joined != text {
			t.Errorf("Join(Split(%q)) = %q", text, joined)
		}
	}
	for text, want := range map[string]api.Mistake{
		"class A{":                   {Code: api.ErrSyntax, At: 8},
		"x":                          {Code: api.ErrSyntax},
		"class A{} &":                {Code: api.ErrByte, At: 10},
		" /*":                        {Code: api.ErrNote, At: 1},
		strings.Repeat(" ", 1<<20+1): {Code: api.ErrLimit},
	} {
		if got, m := segment.Split(text); len(got) != 0 || m != want {
			t.Errorf("Split(%.20q) = %v, %v, want %v", text, got, m, want)
		}
	}
}

// P28.1
func TestJoinKeysAndGet(t *testing.T) {
	l := []api.Segment{seg("b", "1"), seg("a", ""), seg("b", "2"), seg("", "3")}
	before := slices.Clone(l)
	if got := segment.Join(l); got != "123" {
		t.Errorf("Join = %q", got)
	}
	if got := segment.Keys(l); !slices.Equal(got, []string{"b", "a", "b", ""}) {
		t.Errorf("Keys = %q", got)
	}
	if segment.Join(nil) != "" || len(segment.Keys(nil)) != 0 {
		t.Error("nothing is something")
	}
	for key, want := range map[string]string{"b": "1", "a": "", "": "3", "c": "-", "B": "-"} {
		got, is := segment.Get(l, key)
		if is != (want != "-") || is && got != want || !is && got != "" {
			t.Errorf("Get(%q) = %q, %t", key, got, is)
		}
	}
	if _, is := segment.Get(nil, ""); is || !slices.Equal(l, before) {
		t.Error("Get of nothing, or a changed argument")
	}
}

// P28.2
func TestAll(t *testing.T) {
	l := []api.File{{Path: "a", Text: "class A{} "}, {Path: "b/c", Text: ""}, {Path: "d", Text: "class B{int f;}"}}
	want := []api.Segment{seg("A{", "class A{"), seg("A}", "}"), seg("$a", " "), seg("$b/c", ""), seg("B{", "class B{"), seg("B.f", "int f;"), seg("B}", "}"), seg("$d", "")}
	if got, m := segment.All(l); !slices.Equal(got, want) || m != (api.Mistake{}) {
		t.Errorf("All = %v, %v", got, m)
	}
	if got, m := segment.All(nil); len(got) != 0 || m != (api.Mistake{}) {
		t.Errorf("All = %v, %v", got, m)
	}
	// What parses need not be a program.
	if got, m := segment.All([]api.File{{Path: "a", Text: "class A extends A{int m(){}}"}}); len(got) != 4 || m != (api.Mistake{}) {
		t.Errorf("All = %v, %v", got, m)
	}
	for _, c := range []struct {
		l []api.File
		m api.Mistake
	}{
		{[]api.File{{Path: "a", Text: "class A{}"}, {Path: "b", Text: "class B"}}, api.Mistake{Code: api.ErrSyntax, File: 1, At: 7}},
		{[]api.File{{Path: "b", Text: "x"}, {Path: "a"}}, api.Mistake{Code: api.ErrPath}},
		{make([]api.File, 41), api.Mistake{Code: api.ErrLimit}},
	} {
		if got, m := segment.All(c.l); len(got) != 0 || m != c.m {
			t.Errorf("All = %v, %v, want %v", got, m, c.m)
		}
	}
}

// P28.2
func TestBody(t *testing.T) {
	for key, want := range map[string]bool{"A.m()": true, "()": true, "A.f": false, "A{": false, "$": false, "": false, ")": false, "A.m() ": false, "A.m()#0": false, "$x()": true} {
		if got := segment.Body(key); got != want {
			t.Errorf("Body(%q) = %t", key, got)
		}
	}
}

// P28.3
func TestConsequence(t *testing.T) {
	l := []api.File{{Path: "a", Text: "class A{int f;void f(){}}class B extends A{void f(){}}"}, {Path: "b"}, {Path: "c", Text: "class C{int A;void A(){}}"}}
	got, m := segment.All(l)
	keys := segment.Keys(got)
	slices.Sort(keys)
	if m.Code != api.OK || len(slices.Compact(keys)) != len(got) {
		t.Errorf("%q", keys)
	}
}
