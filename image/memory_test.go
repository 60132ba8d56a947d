package image_test

import (
	"reflect"
	"strings"
	"sync"
	"testing"
	"unsafe"

	"presage/api"
	"presage/forge"
	"presage/image"
)

// rich are texts whose systems have something in each list: open cells, cells that are refused, rows of all kinds.
var rich = []string{
	"%left '+'; %nonassoc '<'; s : s '+' s | s '-' s | s '<' s | a s 'x' b | 'z' ; a : 'u' b | c ; b : | a '-' ; c : ;",
	"s : 'x' s 'y' | 'x' 'x' s | a 'z' | a 'u' ; a : 'x' a | 'x' ;",
	"s : Name_of_16_bytes 'text of 16 bytes' ; Name_of_16_bytes : ;",
}

// spoil overwrites all lists of a value, spare room included.
func spoil(v reflect.Value) {
	switch v.Kind() {
	case reflect.Int:
		if v.CanSet() {
			v.SetInt(77)
		}
	case reflect.String:
		if v.CanSet() {
			v.SetString("spoiled")
		}
	case reflect.Struct:
		for i := range v.NumField() {
			spoil(v.Field(i))
		}
	case reflect.Slice:
		list := v.Slice(0, v.Cap())
		for i := range list.Len() {
			spoil(list.Index(i))
		}
	}
}

// answers are what a system tells, each by itself.
func answers(s *forge.System) []any {
	return []any{s.Grammar(), s.Automaton(), s.Looks(), s.Settled(), s.Packed()}
}

// R3: a system that was read keeps no piece of the image.
func TestAnImageIsNotKept(t *testing.T) {
	for _, text := range rich {
		b := strings.Clone(wantThereAndBack(t, systemOf(t, text)))
		first := uintptr(unsafe.Pointer(unsafe.StringData(b)))
		d, _ := image.Decode(b)
		g := d.Grammar()
		names := append([]string(nil), g.Nons[1:]...)
		for _, term := range g.Terms[1:] {
			names = append(names, term.Name)
		}
		for _, name := range names {
			if at := uintptr(unsafe.Pointer(unsafe.StringData(name))); at >= first && at < first+uintptr(len(b)) {
				t.Errorf("%s: %q is a piece of the image", text, name)
			}
		}
	}
}

// R3: a system stays as it is, whatever becomes of what it told; one that was read is no other one.
func TestASystemIsLeftAlone(t *testing.T) {
	for _, text := range rich {
		s := systemOf(t, text)
		want := toldAll(s)
		b := wantThereAndBack(t, s)
		d, _ := image.Decode(b)
		for _, one := range append(answers(s), answers(d)...) {
			spoil(reflect.ValueOf(one))
			if toldAll(s) != want || toldAll(d) != want {
				t.Fatalf("%s: a system tells %s, the one that was read %s; want %s", text, toldAll(s), toldAll(d), want)
			}
		}
		if again := wantThereAndBack(t, d); again != b {
			t.Errorf("%s: the image became %x, it was %x", text, again, b)
		}
		*d = forge.System{}
		if again := wantThereAndBack(t, s); again != b {
			t.Errorf("%s: the image became %x, it was %x", text, again, b)
		}
	}
}

// R1: bytes of any length, that tell of any numbers, end soon.
func TestLongBytes(t *testing.T) {
	b := wantThereAndBack(t, systemOf(t, rich[0]))
	body := b[:len(b)-4]
	for _, by := range []string{"\x00", "\x01", "\x10", "\x40", "\x60", "\x7f", "\xff", "\x02a\x01", "\x01a", b} {
		long := strings.Repeat(by, 1<<22/len(by))
		wantNone(t, "long, without a head", "P"+long, api.ErrHead)
		wantNone(t, "long, without a sum", saidHead+long, api.ErrSum)
		wantNone(t, "long", sealed(saidHead+long), api.ErrForm)
		wantNone(t, "an image, and more", sealed(body+long), api.ErrForm)
	}
}

// R4: many may write and read one system at once.
func TestByMany(t *testing.T) {
	s := systemOf(t, rich[0])
	want, b := toldAll(s), wantThereAndBack(t, s)
	images, systems := make([]string, 8), make([]string, 8)
	var all sync.WaitGroup
	for i := range images {
		all.Go(func() {
			images[i], _ = image.Encode(s)
			d, _ := image.Decode(b)
			systems[i] = toldAll(d)
		})
	}
	all.Wait()
	for i := range images {
		if images[i] != b || systems[i] != want {
			t.Errorf("%x is the image, %s is told; want %x, %s", images[i], systems[i], b, want)
		}
	}
}

// R4: what was refused, or read, ahead of a call changes nothing of it.
func TestOneAnswer(t *testing.T) {
	s := systemOf(t, sums)
	b := wantThereAndBack(t, s)
	for _, other := range []string{"", b[:9], sealed(saidHead + "\xff"), sealed(b), b + "x", wantThereAndBack(t, systemOf(t, operators))} {
		image.Decode(other)
		image.Encode(nil)
		if again := wantThereAndBack(t, s); again != b {
			t.Errorf("behind %x the image became %x, it was %x", other, again, b)
		}
	}
}
