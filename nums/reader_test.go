package nums_test

import (
	"math"
	"strings"
	"testing"
	"unsafe"

	"engross/api"
	"engross/nums"
)

// nine is what stands ahead of a tenth digit.
const nine = "\xff\xff\xff\xff\xff\xff\xff\xff\xff"

// faulted fails the test, if r doesn't stand where its call faulted, with e, or if any call still reads.
func faulted(t *testing.T, what string, r *nums.Reader, e api.Errno, left int) {
	t.Helper()
	if r.Fault() != e || r.Left() != left {
		t.Errorf("%s: fault %d, %d left, not fault %d, %d left", what, r.Fault(), r.Left(), e, left)
	}
	r.Fail(api.ErrTwin)
	if r.Num(math.MaxUint64) != 0 || r.Int() != 0 || r.Row(math.MaxInt) != "" || r.Take(1) != "" || r.Take(-1) != "" || r.Take(0) != "" {
		t.Errorf("%s: a call reads on", what)
	}
	if r.Fault() != e || r.Left() != left {
		t.Errorf("%s: after other calls fault %d, %d left", what, r.Fault(), r.Left())
	}
}

// P1.2: each call reads what stands next and passes just that.
func TestReaderReadsInOrder(t *testing.T) {
	s := "\xac\x02" + "\x05" + "\x02ab" + "cde" + "\x00" + "\x00" + nine + "\x01"
	r := nums.Read(s)
	left := len(s)
	step := func(what string, right bool, size int) {
		t.Helper()
		left -= size
		if !right || r.Fault() != api.OK || r.Left() != left {
			t.Fatalf("%s: %v, fault %d, %d left, not %d", what, right, r.Fault(), r.Left(), left)
		}
	}
	step("Read", true, 0)
	step("Num", r.Num(300) == 300, 2)
	step("Int", r.Int() == -3, 1)
	step("Row", r.Row(2) == "ab", 3)
	step("Take 0", r.Take(0) == "", 0)
	step("Take 3", r.Take(3) == "cde", 3)
	step("Row of none", r.Row(0) == "", 1)
	step("Num 0", r.Num(0) == 0, 1)
	step("the least Int", r.Int() == math.MinInt64, 10)
	step("Take 0 at the end", r.Take(0) == "", 0)
	if n := r.Num(9); n != 0 {
		t.Error(n)
	}
	faulted(t, "Num at the end", r, api.ErrShort, 0)
}

// P1.2: Num's faults, and Int's, in their order.
func TestReaderFaultsOfNumbers(t *testing.T) {
	for _, x := range []struct {
		s    string
		most uint64
		e    api.Errno
	}{
		{"", math.MaxUint64, api.ErrShort}, {"\x80", math.MaxUint64, api.ErrShort}, {nine, math.MaxUint64, api.ErrShort},
		{"\x80\x00", math.MaxUint64, api.ErrForm}, {"\x80\x00\x01", math.MaxUint64, api.ErrForm}, {"\xff\xff\x00", 0, api.ErrForm},
		{"\x0a", 9, api.ErrMany}, {"\xac\x02", 299, api.ErrMany}, {"\x01", 0, api.ErrMany}, {nine + "\x01", math.MaxUint64 - 1, api.ErrMany},
		{"\xff", 0, api.ErrShort}, {nine + "\x02", 0, api.ErrForm}, {nine + "\x00", 0, api.ErrForm},
		{nine + "\x80", 0, api.ErrForm}, {nine + "\xff", 0, api.ErrForm}, {nine + "\x81\x00", 0, api.ErrForm},
		{strings.Repeat("\x80", 10), math.MaxUint64, api.ErrForm}, {strings.Repeat("\xff", 99), math.MaxUint64, api.ErrForm},
	} {
		r := nums.Read(x.s)
		if n := r.Num(x.most); n != 0 {
			t.Errorf("%q: Num %d", x.s, n)
		}
		faulted(t, "Num", r, x.e, len(x.s))
		if x.e == api.ErrMany {
			continue
		}
		r = nums.Read(x.s)
		if n := r.Int(); n != 0 {
			t.Errorf("%q: Int %d", x.s, n)
		}
		faulted(t, "Int", r, x.e, len(x.s))
	}
}

// P1.2: the tenth byte is 1, or nothing, whatever comes behind.
func TestReaderFaultsOfTenthBytes(t *testing.T) {
	for tenth := range 256 {
		for _, ahead := range []string{nine, strings.Repeat("\x80", 9)} {
			for _, behind := range []string{"", "\x00", "\x01", "\xff"} {
				s := ahead + string([]byte{byte(tenth)}) + behind
				r := nums.Read(s)
				n := r.Num(math.MaxUint64)
				if tenth != 1 {
					if n != 0 {
						t.Errorf("%q: %d", s, n)
					}
					faulted(t, "Num", r, api.ErrForm, len(s))
				} else if n < 1<<63 || r.Fault() != api.OK || r.Left() != len(behind) {
					t.Errorf("%q: %d, fault %d, %d left", s, n, r.Fault(), r.Left())
				}
			}
		}
	}
}

// P1.2: Row's faults, in their order; of its length nothing is passed either.
func TestReaderFaultsOfRows(t *testing.T) {
	for _, x := range []struct {
		s    string
		most int
		e    api.Errno
	}{
		{"", 9, api.ErrShort}, {"\x83", 9, api.ErrShort}, {"\x03ab", 9, api.ErrShort}, {"\x01", 9, api.ErrShort},
		{"\x80\x00", 9, api.ErrForm}, {"\x02ab", 1, api.ErrMany}, {"\x02a", 1, api.ErrMany}, {"\x01a", 0, api.ErrMany},
		{"\x00", -1, api.ErrMany}, {"\x01a", -1, api.ErrMany}, {"\x00", math.MinInt, api.ErrMany},
		{nine + "\x01", -1, api.ErrMany}, {"", -1, api.ErrShort}, {"\x80", -1, api.ErrShort}, {"\x80\x00", -1, api.ErrForm},
		{nine + "\x01", math.MaxInt, api.ErrMany}, {nums.Num(1 << 63), math.MaxInt, api.ErrMany}, {nums.Num(math.MaxInt), math.MaxInt, api.ErrShort},
	} {
		r := nums.Read(x.s)
		if row := r.Row(x.most); row != "" {
			t.Errorf("%q: Row(%d) %q", x.s, x.most, row)
		}
		faulted(t, "Row", r, x.e, len(x.s))
	}
}

// P1.2: Take's faults.
func TestReaderFaultsOfTake(t *testing.T) {
	for _, x := range []struct {
		s string
		n int
		e api.Errno
	}{
		{"ab", -1, api.ErrArg}, {"", -1, api.ErrArg}, {"ab", math.MinInt, api.ErrArg},
		{"ab", 3, api.ErrShort}, {"", 1, api.ErrShort}, {"ab", math.MaxInt, api.ErrShort},
	} {
		r := nums.Read(x.s)
		if s := r.Take(x.n); s != "" {
			t.Errorf("Take(%d): %q", x.n, s)
		}
		faulted(t, "Take", r, x.e, len(x.s))
	}
	r := nums.Read("ab")
	if s := r.Take(2); s != "ab" || r.Left() != 0 || r.Fault() != api.OK {
		t.Error(s, r.Left(), r.Fault())
	}
}

// P1.2: Fail faults once; OK isn't a fault.
func TestReaderFails(t *testing.T) {
	r := nums.Read("\x01b")
	r.Fail(api.OK)
	if r.Fault() != api.OK || r.Num(1) != 1 || r.Left() != 1 {
		t.Error("Fail of OK faults", r.Fault(), r.Left())
	}
	r.Fail(api.ErrRoot)
	r.Fail(api.OK)
	r.Fail(api.ErrForm)
	faulted(t, "Fail", r, api.ErrRoot, 1)
	r = nums.Read("ab")
	r.Take(9)
	r.Fail(api.ErrChain)
	faulted(t, "Fail behind a fault", r, api.ErrShort, 2)
	r = nums.Read("ab")
	r.Fail(-7)
	faulted(t, "Fail of an error that api doesn't name", r, -7, 2)
}

// P1.2: a nil reader answers zero and ErrArg; one of no bytes reads none.
func TestReaderOfNil(t *testing.T) {
	var r *nums.Reader
	faulted(t, "nil", r, api.ErrArg, 0)
	r.Fail(api.OK)
	faulted(t, "nil", r, api.ErrArg, 0)
	empty := nums.Read("")
	if empty.Fault() != api.OK || empty.Left() != 0 || empty.Take(0) != "" || empty.Fault() != api.OK {
		t.Error("a reader of no bytes", empty.Fault())
	}
}

// Rules 5 and 6: what is answered is new memory, and readers of the same bytes don't touch each other.
func TestReaderSharesNothing(t *testing.T) {
	s := strings.Repeat("\x03abc", 8)
	a, b := nums.Read(s), nums.Read(s)
	row, piece := a.Row(3), a.Take(4)
	for _, got := range []string{row, piece} {
		at := uintptr(unsafe.Pointer(unsafe.StringData(got)))
		from := uintptr(unsafe.Pointer(unsafe.StringData(s)))
		if at >= from && at < from+uintptr(len(s)) {
			t.Errorf("%q lies within what was handed in", got)
		}
	}
	if b.Left() != len(s) || b.Row(3) != "abc" || a.Left() != len(s)-8 {
		t.Error("two readers", a.Left(), b.Left())
	}
	c := *a
	if c.Fail(api.ErrRoot); a.Fault() != api.OK || a.Row(3) != "abc" || c.Left() != len(s)-8 {
		t.Error("a copied reader", a.Fault(), c.Left())
	}
}

// P1.3: what is written is read as it was.
func TestReadIsWhatWasWritten(t *testing.T) {
	var all strings.Builder
	for _, n := range numbers() {
		for _, behind := range []string{"", "\x00", "\x7f", "\xff"} {
			r := nums.Read(nums.Num(n) + behind)
			if got := r.Num(n); got != n || r.Fault() != api.OK || r.Left() != len(behind) {
				t.Errorf("%d: Num %d, fault %d, %d left", n, got, r.Fault(), r.Left())
			}
			r = nums.Read(nums.Int(int64(n)) + behind)
			if got := r.Int(); got != int64(n) || r.Fault() != api.OK || r.Left() != len(behind) {
				t.Errorf("%d: Int %d, fault %d, %d left", int64(n), got, r.Fault(), r.Left())
			}
		}
		all.WriteString(nums.Row(nums.Num(n)) + nums.Int(int64(n)))
	}
	r := nums.Read(all.String())
	for _, n := range numbers() {
		if row, got := r.Row(10), r.Int(); row != nums.Num(n) || got != int64(n) {
			t.Errorf("%d: %q, %d", n, row, got)
		}
	}
	if r.Fault() != api.OK || r.Left() != 0 {
		t.Error(r.Fault(), r.Left())
	}
	for _, size := range []int{0, 1, 127, 128, 65536} {
		row := strings.Repeat("\x80", size)
		r := nums.Read(nums.Row(row) + "z")
		if got := r.Row(size); got != row || r.Fault() != api.OK || r.Left() != 1 {
			t.Errorf("a row of %d bytes: fault %d, %d left", size, r.Fault(), r.Left())
		}
	}
}

// P1.3: nothing else is read as it. Of all texts of up to three bytes (of the third all that tell) each number has one; the others fault as it hangs on whether a number goes on with them.
func TestNothingElseIsRead(t *testing.T) {
	numberOf, begins := map[string]uint64{}, map[string]bool{}
	thirds := []byte{0, 1, 2, 126, 127}
	for _, third := range thirds {
		for low := range uint64(1 << 14) {
			n := uint64(third)<<14 + low
			s := written(n)
			numberOf[s] = n
			for i := range len(s) {
				begins[s[:i]] = true
			}
		}
	}
	begins["\x80\x80\x80"], begins["\xff\xff\xff"] = true, true // of four digits
	look := func(s string) {
		size := 1
		for size < len(s) && begins[s[:size]] {
			size++
		}
		n, e, left := numberOf[s[:size]], api.OK, len(s)-size
		if _, ok := numberOf[s[:size]]; !ok {
			e, left = api.ErrForm, len(s)
			if begins[s[:size]] {
				e = api.ErrShort
			}
		}
		r := nums.Read(s)
		if got := r.Num(math.MaxUint64); got != n || r.Fault() != e || r.Left() != left {
			t.Fatalf("%q: %d, fault %d, %d left, not %d, fault %d, %d left", s, got, r.Fault(), r.Left(), n, e, left)
		}
		if e == api.OK && nums.Num(n) != s[:size] {
			t.Fatalf("%q is read as %d, whose bytes are %q", s, n, nums.Num(n))
		}
	}
	for a := range 256 {
		look(string([]byte{byte(a)}))
		for b := range 256 {
			look(string([]byte{byte(a), byte(b)}))
			for _, c := range thirds {
				look(string([]byte{byte(a), byte(b), c}))
			}
		}
	}
	look("\x80\x80\x80")
	look("\xff\xff\xff")
}
