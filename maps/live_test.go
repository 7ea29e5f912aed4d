package maps_test

import (
	"math"
	"math/rand"
	"slices"
	"strings"
	"testing"

	"carafe/api"
	"carafe/code"
	"carafe/maps"
)

// P11.1: the chapter's runs and examples, and code that is no longer than a few instructions.
func TestLive(t *testing.T) {
	for _, x := range []struct {
		name   string
		code   []byte
		locals int
		want   string
	}{
		{"the first run", []byte{api.ILoad, 0, api.IReturn}, 1, "+ -"},
		{"the second run", []byte{api.IStore, 0, api.ILoad, 0, api.IReturn}, 1, "- + -"},
		{"inc reads and stores", []byte{api.Inc, 0, 1, api.Return}, 1, "+ -"},
		{"a store, then inc", []byte{api.IStore, 0, api.Inc, 0, 1, api.Return}, 1, "- + -"},
		{"inc, then a load", []byte{api.Inc, 0, 1, api.ILoad, 0, api.IReturn}, 1, "+ + -"},
		{"inc of another", []byte{api.Inc, 1, 0, api.Return}, 2, "-+ --"},
		{"inc's B is no local", []byte{api.Inc, 0, 1, api.Return}, 2, "+- --"},
		{"aload", []byte{api.ALoad, 1, api.AReturn}, 2, "-+ --"},
		{"astore", []byte{api.AStore, 1, api.ALoad, 1, api.AReturn}, 2, "-- -+ --"},
		{"a store of another", []byte{api.IStore, 1, api.ILoad, 0, api.IReturn}, 2, "+- +- --"},
		{"a store of the other kind", []byte{api.AStore, 0, api.ILoad, 0, api.IReturn}, 1, "- + -"},
		{"a load behind the end", []byte{api.Return, api.ILoad, 0, api.IReturn}, 1, "- + -"},
		{"a store that nobody reads", []byte{api.IStore, 0, api.Return}, 1, "- -"},
		{"a load, then a store", []byte{api.ILoad, 0, api.IStore, 0, api.Return}, 1, "+ - -"},
		{"a store, then another", []byte{api.IStore, 0, api.IStore, 0, api.ILoad, 0, api.IReturn}, 1, "- - + -"},
		{"two locals", []byte{api.ILoad, 0, api.ILoad, 1, api.Add, api.IReturn}, 2, "++ -+ -- --"},
		{"a number that is no local", []byte{api.Push1, 0, api.Ldc, 0, api.Return}, 1, "- - -"},
		{"a branch, two ways", []byte{api.Const0, api.IfEq, 0, 6, api.ILoad, 0, api.IReturn, api.ILoad, 1, api.IReturn}, 2, "++ ++ +- -- -+ --"},
		{"one of two ways stores", []byte{api.Const0, api.IfEq, 0, 5, api.IStore, 0, api.ILoad, 0, api.IReturn}, 1, "+ + - + -"},
		{"both ways store", []byte{api.Const0, api.IfEq, 0, 8, api.IStore, 0, api.Goto, 0, 5, api.IStore, 0, api.ILoad, 0, api.IReturn}, 1, "- - - + - + -"},
		{"goto goes on there alone", []byte{api.Goto, 0, 6, api.ILoad, 0, api.IReturn, api.ILoad, 1, api.IReturn}, 2, "-+ +- -- -+ --"},
		{"round and round", []byte{api.Goto, 0, 0}, 1, "-"},
		{"a way back", []byte{api.Nop, api.ILoad, 0, api.IfEq, 0xff, 0xfd, api.Return}, 1, "+ + + -"},
		{"a way back that stores", []byte{api.IStore, 0, api.ILoad, 0, api.IfEq, 0xff, 0xfc, api.Return}, 1, "- + - -"},
		{"a way back to a load behind a store", []byte{api.Const0, api.IStore, 0, api.ILoad, 0, api.IfEq, 0xff, 0xfe, api.Return}, 1, "- - + + -"},
		{"parts that go backwards", []byte{api.Goto, 0, 12, api.ILoad, 0, api.IReturn, api.Goto, 0xff, 0xfd, api.Goto, 0xff, 0xfd, api.Goto, 0xff, 0xfd}, 1, "+ + - + + +"},
		{"nothing", nil, 3, ""},
		{"code that falls off", []byte{api.Nop, api.ILoad, 0}, 1, "+ +"},
		{"no locals", []byte{api.ILoad, 0, api.IReturn}, 0, " "},
		{"fewer locals than code reads", []byte{api.ILoad, 1, api.ILoad, 0, api.Return}, 1, "+ + -"},
		{"more locals than code reads", []byte{api.ILoad, 0, api.Return}, 3, "+-- ---"},
	} {
		t.Run(x.name, func(t *testing.T) {
			mustLive(t, read(t, x.code...), nil, x.locals, x.want)
			mustBe(t, read(t, x.code...), nil, x.locals)
		})
	}
}

// P11.1: of all operations: which reads, which stores, and which lets by what those behind it read.
func TestEachOperation(t *testing.T) {
	for op := range 256 {
		if code.Size(op) == 0 {
			continue
		}
		i := api.Inst{Op: op, A: 1}
		if code.Branch(op) {
			i.A = 3
		}
		l := laid(i, api.Inst{Op: api.Return})
		switch op {
		case api.ILoad, api.ALoad, api.Inc:
			mustLive(t, l, nil, 2, "-+ --")
		default:
			mustLive(t, l, nil, 2, "-- --")
		}
		l = laid(i, api.Inst{Op: api.ALoad, A: 1}, api.Inst{Op: api.Inc, A: 2}, api.Inst{Op: api.Return})
		switch op {
		case api.IStore, api.AStore:
			mustLive(t, l, nil, 3, "--+ -++ --+ ---")
		case api.IReturn, api.AReturn, api.Return, api.Throw:
			mustLive(t, l, nil, 3, "--- -++ --+ ---")
		default:
			mustLive(t, l, nil, 3, "-++ -++ --+ ---")
		}
	}
}

// P11.1: locals brought between 0 and MaxLocals; a local that is not among them is not told.
func TestHowManyLocals(t *testing.T) {
	for _, locals := range []int{math.MinInt, -1 << 32, -1, 0, 1, 2, 15, 16, 17, 31, 32, 255, 256, 1<<32 + 1, math.MaxInt} {
		told := min(max(locals, 0), 16)
		for a := range 256 {
			for _, op := range []int{api.ILoad, api.ALoad, api.Inc} {
				want := []byte(strings.Repeat("-", told))
				if a < told {
					want[a] = '+'
				}
				none := strings.Repeat("-", told)
				mustLive(t, laid(api.Inst{Op: op, A: a}, api.Inst{Op: api.Return}), nil, locals, string(want)+" "+none)
				mustLive(t, laid(api.Inst{Op: api.IStore, A: a}, api.Inst{Op: op, A: a}, api.Inst{Op: api.Return}), nil, locals, none+" "+string(want)+" "+none)
			}
		}
	}
}

// P11.1: what a handler asks for is live over all that it is over, whatever is stored there.
func TestHandlers(t *testing.T) {
	l := read(t, api.IStore, 0, api.Nop, api.Return, api.ILoad, 0, api.IReturn) // at 0, 2, 3, 4, 6; the end is 7
	over := func(from, to, at int) []api.Handler {
		return []api.Handler{{From: from, To: to, At: at, Type: "Index"}}
	}
	for _, x := range []struct {
		name string
		h    []api.Handler
		want string
	}{
		{"none", nil, "- - - + -"},
		{"over a store", over(0, 2, 4), "+ - - + -"},
		{"behind a store", over(2, 3, 4), "- + - + -"},
		{"over what ends", over(3, 4, 4), "- + + + -"},
		{"over both", over(0, 3, 4), "+ + - + -"},
		{"over all", over(0, 7, 4), "+ + + + +"},
		{"over the last one", over(6, 7, 4), "- - - + +"},
		{"past the end", over(3, 99, 4), "- + + + +"},
		{"from ahead of all", over(-5, 1, 4), "+ - - + -"},
		{"without bounds", over(math.MinInt, math.MaxInt, 4), "+ + + + +"},
		{"over nothing", over(2, 2, 4), "- - - + -"},
		{"from behind To", over(3, 2, 4), "- - - + -"},
		{"within an instruction", over(1, 2, 4), "- - - + -"},
		{"up to within an instruction", over(0, 1, 4), "+ - - + -"},
		{"At no instruction", over(0, 7, 5), "- - - + -"},
		{"At the end", over(0, 7, 7), "- - - + -"},
		{"At ahead of all", over(0, 7, -1), "- - - + -"},
		{"At where nothing is live", over(0, 7, 6), "- - - + -"},
		{"At itself", over(4, 6, 4), "- - - + -"},
		{"At what stores", over(0, 7, 0), "- - - + -"},
		{"two, one behind the other", append(over(0, 2, 4), over(3, 4, 4)...), "+ + + + -"},
		{"the first of two at no instruction", append(over(0, 7, 5), over(2, 3, 4)...), "- + - + -"},
		{"a handler over a handler's At", append(over(0, 2, 3), over(3, 4, 4)...), "+ + + + -"},
		{"a handler over a store that is another's At", append(over(3, 4, 0), over(0, 2, 4)...), "+ + + + -"},
		{"of no type", []api.Handler{{From: 0, To: 2, At: 4}}, "+ - - + -"},
	} {
		t.Run(x.name, func(t *testing.T) {
			mustLive(t, l, x.h, 1, x.want)
			mustBe(t, l, x.h, 1)
		})
	}
}

// kinds are instructions that read, store, go on, go elsewhere or end.
func kinds() []api.Inst {
	l := []api.Inst{{Op: api.Nop}, {Op: api.Return}, {Op: api.Throw}, {Op: api.Inc}, {Op: api.Inc, A: 1, B: 1}}
	for _, op := range []int{api.ILoad, api.IStore, api.ALoad, api.AStore} {
		l = append(l, api.Inst{Op: op}, api.Inst{Op: op, A: 1})
	}
	for at := -1; at <= 7; at++ {
		l = append(l, api.Inst{Op: api.Goto, A: at}, api.Inst{Op: api.IfNe, A: at})
	}
	return l
}

// P11.1, P11.3: all code of up to three of these instructions, each with a handler or none.
func TestShortCode(t *testing.T) {
	all := kinds()
	for n, a := range all {
		mustBe(t, laid(a), nil, 2)
		for k, b := range all {
			mustBe(t, laid(a, b), nil, 2)
			for _, c := range all {
				l := laid(a, b, c)
				mustBe(t, l, nil, 2)
				h := []api.Handler{{From: l[n%3].At, To: l[n%3].At + k%5, At: l[k%3].At}}
				mustBe(t, l, h, 2)
			}
		}
		if t.Failed() {
			return
		}
	}
}

// P11.1: each handler over some code, also beside another.
func TestEachHandler(t *testing.T) {
	for _, l := range [][]api.Inst{
		laid(api.Inst{Op: api.AStore}, api.Inst{Op: api.Inc, A: 1}, api.Inst{Op: api.Return}, api.Inst{Op: api.AStore, A: 1}, api.Inst{Op: api.ALoad}),
		laid(api.Inst{Op: api.IfEq, A: 8}, api.Inst{Op: api.IStore}, api.Inst{Op: api.Goto, A: 0}, api.Inst{Op: api.ILoad}, api.Inst{Op: api.Return}),
		laid(api.Inst{Op: api.Inc, A: 1}, api.Inst{Op: api.AStore, A: 1}, api.Inst{Op: api.IStore}, api.Inst{Op: api.Goto, A: 3}, api.Inst{Op: api.ILoad}),
	} {
		last := end(l) + 1
		for from := -1; from <= last; from++ {
			for to := -1; to <= last; to++ {
				for at := -1; at <= last; at++ {
					x := api.Handler{From: from, To: to, At: at}
					mustBe(t, l, []api.Handler{x}, 2)
					mustBe(t, l, []api.Handler{{From: 3, To: 6, At: l[4].At}, x}, 2)
					mustBe(t, l, []api.Handler{x, {From: l[3].At, To: last, At: l[1].At}}, 2)
				}
			}
		}
	}
}

// anyCode is code of up to so many instructions, half of which read or store locals; branches go to where one stands, most often.
func anyCode(draw func(n int) int, most int) []api.Inst {
	ops := []int{api.ILoad, api.ALoad, api.Inc, api.IStore, api.AStore, api.IfEq, api.Goto, api.IfNull, api.Nop, api.Pop, api.Push1, api.New, api.Static, api.Throw, api.Return, api.IStore, api.AStore}
	var l []api.Inst
	for range 1 + draw(most) {
		l = append(l, api.Inst{Op: ops[draw(len(ops))], A: draw(6)})
		if draw(20) == 0 {
			l[len(l)-1].A = draw(18)
		}
	}
	l = laid(l...)
	for n, i := range l {
		if isBranch(i.Op) && draw(30) > 0 {
			l[n].A = l[draw(len(l))].At
		}
	}
	return l
}

// anyHandlers are some over l, most of them right.
func anyHandlers(draw func(n int) int, l []api.Inst) (h []api.Handler) {
	for range draw(5) {
		from := draw(len(l))
		h = append(h, api.Handler{From: l[from].At, To: l[from].At + 1 + draw(9), At: l[draw(len(l))].At - draw(2)*draw(2)})
	}
	return h
}

// P11.1, P11.3: code by the thousand.
func TestMany(t *testing.T) {
	r := rand.New(rand.NewSource(11))
	for n := range 6000 {
		most := 20
		if n%50 == 0 {
			most = 200
		}
		l := anyCode(r.Intn, most)
		h := anyHandlers(r.Intn, l)
		locals := 1 + r.Intn(17)
		mustBe(t, l, h, locals)
		mustNotMiss(t, l, h, maps.Live(l, h, locals), r.Intn)
		if t.Failed() {
			return
		}
	}
}

// mustNotMiss goes ways through l and spoils each local where it is not live: what is spoiled must not be read.
func mustNotMiss(t testing.TB, l []api.Inst, h []api.Handler, live [][]bool, draw func(n int) int) {
	t.Helper()
	for from := range l {
		spoiled, n := make([]bool, len(live[from])), from
		for range 30 {
			for local := range spoiled {
				spoiled[local] = spoiled[local] || !live[n][local]
				if spoiled[local] && doesRead(l[n], local) {
					t.Fatalf("Live(%v, %v): from %d on local %d is read at %d", l, h, from, local, n)
				}
			}
			to := isCaught(l, h, n)
			if len(to) == 0 || draw(3) > 0 {
				to = goesOn(l, n)
				for local := range spoiled {
					spoiled[local] = spoiled[local] && !doesStore(l[n], local)
				}
			}
			if len(to) == 0 {
				break
			}
			n = to[draw(len(to))]
		}
	}
}

// P11.1: as much code, as many handlers and locals as there may be, by the longest of ways.
func TestAsMuchAsMayBe(t *testing.T) {
	var back []api.Inst // each goes to the one ahead of it, so that what is live has to come all the way behind
	back = append(back, api.Inst{Op: api.ILoad, A: 15}, api.Inst{Op: api.Return})
	for n := 2; n < 340; n++ {
		at := 0
		if n > 2 {
			at = 3 + 3*(n-3)
		}
		back = append(back, api.Inst{Op: api.Goto, A: at})
	}
	back = laid(back...)
	var h []api.Handler
	for n := range 64 {
		h = append(h, api.Handler{From: 3 * n, To: 1024, At: 2})
	}
	only := strings.Repeat("-", 15) + "+"
	want := slices.Repeat([]string{only}, len(back))
	want[1] = strings.Repeat("-", 16)
	mustLive(t, back, h, 16, strings.Join(want, " "))
	full := slices.Repeat([]api.Inst{{Op: api.Nop}}, 1021)
	full = laid(append(full, api.Inst{Op: api.ALoad, A: 15}, api.Inst{Op: api.AReturn})...)
	mustLive(t, full, h, 16, strings.Join(slices.Repeat([]string{only}, len(full)), " "))
}

// R1: of lists that code.Decode never answers the call ends, and its answer is of the list.
func TestOddLists(t *testing.T) {
	r := rand.New(rand.NewSource(1))
	numbers := []int{math.MinInt, -1 << 32, -32768, -64, -16, -1, 0, 1, 2, 3, 9, 15, 16, 63, 64, 65, 1 << 32, math.MaxInt - 1, math.MaxInt}
	pick := func() int { return numbers[r.Intn(len(numbers))] }
	ops := []int{api.ILoad, api.AStore, api.IStore, api.Inc, api.Goto, api.IfEq, api.Return}
	for range 20000 {
		l := make([]api.Inst, r.Intn(6))
		for n := range l {
			l[n] = api.Inst{At: pick(), Op: pick(), A: pick(), B: pick()}
			if r.Intn(3) > 0 {
				l[n].Op = ops[r.Intn(len(ops))]
			}
		}
		var h []api.Handler
		for range r.Intn(4) {
			h = append(h, api.Handler{From: pick(), To: pick(), At: pick()})
		}
		locals := pick()
		live := maps.Live(l, h, locals)
		if len(live) != len(l) {
			t.Fatalf("Live(%v, %v, %d): %v", l, h, locals, live)
		}
		for _, x := range live {
			if len(x) != min(max(locals, 0), 16) {
				t.Fatalf("Live(%v, %v, %d): %v", l, h, locals, live)
			}
		}
	}
}

// R4: nil and empty lists mean the same.
func TestNothing(t *testing.T) {
	for _, none := range [][]api.Inst{nil, {}} {
		for _, h := range [][]api.Handler{nil, {}, {{From: 0, To: 9, At: 0}}} {
			mustLive(t, none, h, 4, "")
		}
	}
	for _, h := range [][]api.Handler{nil, {}} {
		mustLive(t, read(t, api.ILoad, 0, api.IReturn), h, 1, "+ -")
	}
}

// P11.1, P11.3: whatever the bytes, whatever the handlers.
func FuzzLive(f *testing.F) {
	for _, s := range []string{"", "\x15\x00\xac", "\x36\x00\x15\x00\xac", "\x84\x00\x01\xb1", "\x36\x00\x00\xb1\x15\x00\xac", "\xa7\x00\x00\x15\x00\xac", "\x00\x15\x00\x99\xff\xfd\xb1"} {
		f.Add([]byte(s), 0, 2, 4, 1, 1)
		f.Add([]byte(s), 2, len(s), 0, 0, 16)
	}
	f.Fuzz(func(t *testing.T, b []byte, from, to, at, other, locals int) {
		if l, why, _ := code.Decode(b); why == api.OK && len(l) < 200 {
			h := []api.Handler{{From: from, To: to, At: at}, {From: at, To: math.MaxInt, At: other}}
			mustBe(t, l, h, locals)
			mustBe(t, l, nil, locals)
		}
	})
}
