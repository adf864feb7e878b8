package cons_test

import (
	"reflect"
	"testing"

	"paideia/api"
	"paideia/cons"
	"paideia/types"
)

// roomy is a list with room behind it, in which something stands.
func roomy[T any](l []T, more ...T) []T {
	room := append(make([]T, 0, len(l)+len(more)), l...)
	return append(room, more...)[:len(l)]
}

// roomyEach is roomy of a list of which each is made roomy.
func roomyEach[T any](l []T, each func(T) T, more ...T) []T {
	made := make([]T, len(l))
	for i, x := range l {
		made[i] = each(x)
	}
	return roomy(made, more...)
}

func roomyType(t api.Type) api.Type {
	t.Args = roomyEach(t.Args, roomyType, types.Var("r"), types.Con("Room", types.Con("L")))
	return t
}

func roomyCon(c api.Con) api.Con {
	c.Args = roomyEach(c.Args, roomyType, types.Con("Room"), types.Var("r"))
	return c
}

func roomyData(d api.Data) api.Data {
	d.Vars, d.Deriving = roomy(d.Vars, "r", "b"), roomy(d.Deriving, "Room")
	d.Cons = roomyEach(d.Cons, roomyCon, api.Con{Name: "N"}, api.Con{Name: "N", Args: []api.Type{types.Con("Room")}})
	return d
}

// roomyDatas have room in each list, in which stands what would be amiss, or would make well what is amiss.
func roomyDatas(text string) []api.Data {
	return roomyEach(readDatas(text), roomyData, api.Data{Name: "Q"}, api.Data{Name: "Int", Cons: []api.Con{{Name: "N"}}})
}

// whole is a value in which each list goes to its memory's end, spare room too: a copy.
func whole(v reflect.Value) any {
	switch v.Kind() {
	case reflect.Slice:
		l := make([]any, v.Cap())
		for i := range l {
			l[i] = whole(v.Slice(0, v.Cap()).Index(i))
		}
		return l
	case reflect.Struct:
		l := make([]any, v.NumField())
		for i := range l {
			l[i] = whole(v.Field(i))
		}
		return l
	}
	return v.Interface()
}

func wholeOf(x any) any { return whole(reflect.ValueOf(x)) }

// spoil writes into each list of a value, and into the room behind it, and appends to it.
func spoil(v reflect.Value) {
	switch v.Kind() {
	case reflect.Slice:
		for i := range v.Len() {
			spoil(v.Index(i))
		}
		room := v.Slice(0, v.Cap())
		for i := range room.Len() {
			room.Index(i).Set(spoilt(v.Type().Elem()))
		}
		reflect.Append(v, spoilt(v.Type().Elem()))
	case reflect.Struct:
		for i := range v.NumField() {
			spoil(v.Field(i))
		}
	}
}

func spoilt(t reflect.Type) reflect.Value {
	for _, x := range []any{"spoilt", types.Con("Spoilt", types.Var("spoilt")), api.Con{Name: "Spoilt"}, api.Data{Name: "Spoilt"}, api.Pred{Class: "Spoilt"}} {
		if reflect.TypeOf(x) == t {
			return reflect.ValueOf(x)
		}
	}
	panic(t.String())
}

func spoilOf[T any](x T) { spoil(reflect.ValueOf(&x).Elem()) }

const memoryText = "data T a b = X a (T b a) (L a -> b) | Y | Z (P Int (L (T a a))) deriving (Eq, Show); data V = W (V -> T V U) deriving (Ord); data A a = A"

// What is handed in stays, and what stands in its room is not seen.
func TestGivenStays(t *testing.T) {
	l := roomyDatas(memoryText)
	before := wholeOf(l)
	e, want := known(), with(knownText)
	if err := e.Add(l...); err != nil {
		t.Error(say(err))
	}
	if err := want.Add(readDatas(memoryText)...); err != nil {
		t.Error(say(err))
	}
	if tell(e) != tell(want) {
		t.Errorf("%s; want %s", tell(e), tell(want))
	}
	if !reflect.DeepEqual(wholeOf(l), before) {
		t.Error("definitions that were handed in were written")
	}
}

func TestGivenStaysBesideErrors(t *testing.T) {
	for text, want := range map[string]string{
		"data T = T; data V = T":                   "12: a name twice",
		"data T a = X a | Y a | X (T a)":           "0: a name twice",
		"data T = T; data Int = X T":               "12: a name twice",
		"data T a = X (L (a -> Q))":                "0: a name that is nobody's",
		"data T a = X a (P a c)":                   "0: a name that is nobody's",
		"data T a = X a | Y Room":                  "0: a name that is nobody's",
		"data T = X; data V a = Y (T -> r)":        "12: a name that is nobody's",
		"data T a b = X (P a b) (L (T a))":         "0: a type with other arguments",
		"data T a b = X (a -> b) | Y a (P a b) L":  "0: a type with other arguments",
		"data V = Y; data T a = X (V -> V -> V a)": "12: a type with other arguments",
	} {
		l := roomyDatas(text)
		before := wholeOf(l)
		e := known()
		was := tell(e)
		for range 2 {
			if err := e.Add(l...); say(err) != want {
				t.Errorf("%s: %s; want %s", text, say(err), want)
			}
		}
		if !reflect.DeepEqual(wholeOf(l), before) {
			t.Errorf("%s: what was handed in was written", text)
		}
		if tell(e) != was {
			t.Errorf("%s: something was added", text)
		}
	}
}

func TestGivenToKindStays(t *testing.T) {
	e := known()
	for text, want := range map[string]error{"a": nil, "U": nil, "L a": nil, "P (L a) (a -> P U Int) -> L U": nil, "L": api.ErrKind, "P a": api.ErrKind, "L (U -> P a) -> Q": api.ErrKind, "Q": api.ErrScope, "L (a -> P U Room)": api.ErrScope} {
		x := roomyType(readType(text))
		before := wholeOf(x)
		if got := e.Kind(x); got != want {
			t.Errorf("%s: %v; want %v", text, got, want)
		}
		if !reflect.DeepEqual(wholeOf(x), before) {
			t.Errorf("%s: what was handed in was written", text)
		}
	}
}

// What is handed in is not kept: whatever is written into it behind the call, what is told stays.
func TestGivenIsNotKept(t *testing.T) {
	e := known()
	l := roomyDatas(memoryText)
	if err := e.Add(l...); err != nil {
		t.Error(say(err))
	}
	before := tell(e)
	spoilOf(l)
	if tell(e) != before {
		t.Errorf("%s; want %s", tell(e), before)
	}
	if err := e.Add(api.Data{Name: "Spoilt", Cons: []api.Con{{Name: "Spoilt", Args: []api.Type{readType("T V (A Int)")}}}}); err != nil {
		t.Error(say(err))
	}
}

// answers are all that is handed out with lists.
func answers(e *cons.Env) (l []any) {
	for _, name := range []string{"X", "Y", "Z", "W", "A", "C", "N", "P", "U", "Q"} {
		s, _ := e.Scheme(name)
		l = append(l, s)
	}
	for _, name := range []string{"T", "V", "A", "L", "P", "U", "Q", "Int"} {
		d, _ := e.Data(name)
		l = append(l, d)
	}
	return append(l, e.Datas(), e.Datas())
}

// spoilAny spoils an answer.
func spoilAny(x any) {
	v := reflect.New(reflect.TypeOf(x)).Elem()
	v.Set(reflect.ValueOf(x))
	spoil(v)
}

// wholes are answers to the ends of their lists' memory.
func wholes(l []any) (all []any) {
	for _, x := range l {
		all = append(all, wholeOf(x))
	}
	return all
}

// Whatever is written into an answer, or appended to a list of it, no other answer shows it, nor does the Env.
func TestAnswersAreApart(t *testing.T) {
	e := known()
	if err := e.Add(readDatas(memoryText)...); err != nil {
		t.Fatal(say(err))
	}
	before := tell(e)
	again, got := answers(e), answers(e)
	wantAgain, want := wholes(again), wholes(got)
	for i := range got {
		spoilAny(got[i])
		for j := i + 1; j < len(got); j++ {
			if !reflect.DeepEqual(wholeOf(got[j]), want[j]) {
				t.Errorf("by answer %d answer %d is %v", i, j, got[j])
			}
		}
		if tell(e) != before {
			t.Fatalf("by answer %d: %s; want %s", i, tell(e), before)
		}
	}
	if !reflect.DeepEqual(wholes(again), wantAgain) {
		t.Error("an answer shows what was written into another one")
	}
}

// cells adds where each list of a value has its memory, to the ends; and counts what stands in two lists.
func cells(v reflect.Value, seen map[uintptr]bool) (shared int) {
	switch v.Kind() {
	case reflect.Slice:
		room := v.Slice(0, v.Cap())
		for i := range room.Len() {
			at := room.Index(i).Addr().Pointer()
			if seen[at] {
				shared++
			}
			seen[at] = true
		}
		for i := range v.Len() {
			shared += cells(v.Index(i), seen)
		}
	case reflect.Struct:
		for i := range v.NumField() {
			shared += cells(v.Field(i), seen)
		}
	}
	return shared
}

// No two lists share memory, of one answer or of two.
func TestListsAreApart(t *testing.T) {
	e := known()
	if err := e.Add(readDatas(memoryText)...); err != nil {
		t.Fatal(say(err))
	}
	seen := map[uintptr]bool{}
	for i, x := range append(answers(e), answers(e)...) {
		if n := cells(reflect.ValueOf(x), seen); n > 0 {
			t.Errorf("answer %d: %d shared", i, n)
		}
	}
}

// Lists that are one piece of memory, one behind the other, or the same one.
func TestListsInOnePiece(t *testing.T) {
	args := []api.Type{types.Var("a"), types.Con("L", types.Var("b")), types.Con("Q")}
	vars := []string{"a", "b", "c"}
	ends := []api.Con{{Name: "X", Args: args[:1]}, {Name: "Y", Args: args[:2]}, {Name: "Z", Args: args[1:2]}, {Name: "W", Args: args[2:2]}, {Name: "B", Args: args}}
	l := []api.Data{{Name: "T", Vars: vars[:2], Cons: ends[:3], Deriving: vars[2:2]}, {Name: "V", Vars: vars[2:], Cons: ends[3:4]}, {Name: "A", Vars: vars, Cons: ends[4:]}}
	before := wholeOf(l)
	e := known()
	if err := e.Add(l...); say(err) != "0: a name that is nobody's" {
		t.Error(say(err))
	}
	if err := e.Add(l[:2]...); err != nil {
		t.Error(say(err))
	}
	if err := e.Add(api.Data{Name: "D", Vars: vars[:1], Cons: []api.Con{{Name: "D", Args: args[:2]}}, Pos: 4}); say(err) != "4: a name that is nobody's" {
		t.Error(say(err))
	}
	want := with(knownText + "; data T a b = X a | Y a (L b) | Z (L b); data V c = W")
	if tellPlaceless(e) != tellPlaceless(want) {
		t.Errorf("%s; want %s", tell(e), tell(want))
	}
	if !reflect.DeepEqual(wholeOf(l), before) {
		t.Error("what was handed in was written")
	}
}

// What was handed out may be handed in: to another Env, and, with another name, to the same one.
func TestAnswersHandedIn(t *testing.T) {
	e := known()
	var same cons.Env
	if err := same.Add(e.Datas()...); err != nil || tell(&same) != tell(e) {
		t.Error(say(err), tell(&same))
	}
	d, _ := e.Data("L")
	d.Name, d.Cons[0].Name, d.Cons[1].Name = "T", "X", "Y"
	if err := e.Add(d); err != nil {
		t.Error(say(err))
	}
	if err := same.Add(readDatas("data T a = X | Y a (L a) deriving (Eq, Show)")...); err != nil || tell(&same) != tell(e) {
		t.Error(say(err), tell(e))
	}
}

// Each error is another one: whoever writes into it changes no other answer.
func TestErrorsAreApart(t *testing.T) {
	for _, text := range []string{"data T = X; data V = X", "data Int = X", "data V = V; data T = X Q", "data V = V; data T = X L", "data T = X b"} {
		e := known()
		first, second := e.Add(readDatas(text)...), e.Add(readDatas(text)...)
		want := say(second)
		if say(first) != want || first == second {
			t.Errorf("%s: %s; then %s", text, say(first), want)
		}
		*first.(*api.At) = api.At{Pos: -1, Err: api.ErrLex}
		if say(second) != want || say(e.Add(readDatas(text)...)) != want {
			t.Errorf("%s: an error hangs on another one", text)
		}
	}
}

// An answer hangs on nothing but what was added.
func TestAsOften(t *testing.T) {
	var first string
	for range 20 {
		e := known()
		for range 3 {
			if err := e.Add(readDatas("data T = X; data V = Q Q")...); err == nil {
				t.Error("nothing")
			}
			spoilOf(e.Datas())
			isOfKind(t, e, api.ErrKind, "L -> Q")
		}
		if err := e.Add(readDatas(memoryText)...); err != nil {
			t.Error(say(err))
		}
		text := tell(e)
		if first == "" {
			first = text
		}
		if text != first || tell(e) != first {
			t.Fatalf("%s; then %s", first, text)
		}
	}
}
