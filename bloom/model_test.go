package bloom_test

import (
	"math/rand"
	"testing"
)

// anyKey returns a key of any bytes; short ones meet.
func anyKey(r *rand.Rand) string {
	if r.Intn(4) == 0 {
		return texts[r.Intn(len(texts))]
	}
	b := make([]byte, r.Intn(1+r.Intn(70)))
	r.Read(b)
	return string(b)
}

// P5.1, P5.2: filters of random keys are those of the model, and have their keys.
func TestBuildAgainstModel(t *testing.T) {
	r := rand.New(rand.NewSource(5))
	for range 2000 {
		keys := make([]string, r.Intn(1+r.Intn(200)))
		for i := range keys {
			keys[i] = anyKey(r)
		}
		per := r.Intn(28) - 2
		if r.Intn(4) == 0 {
			per = pers[r.Intn(len(pers))]
		}
		f := wantBuild(keys, per)
		checkBuild(t, keys, per, f)
		for _, key := range keys {
			checkMay(t, "P5.2", f, key, true)
		}
		for range 20 {
			key := anyKey(r)
			checkMay(t, "P5.1", f, key, wantMay(f, key))
		}
		if t.Failed() {
			return
		}
	}
}

// P5.1: of random bytes May answers as the model does.
func TestMayAgainstModel(t *testing.T) {
	r := rand.New(rand.NewSource(6))
	there := 0
	for range 40000 {
		f := make([]byte, r.Intn(1+r.Intn(60)))
		r.Read(f)
		for i := range f {
			f[i] |= byte(r.Intn(256)) | byte(r.Intn(256)) // mostly ones, so that some keys are there
		}
		if len(f) > 0 && r.Intn(8) > 0 {
			f[len(f)-1] = byte(r.Intn(20))
		}
		key := anyKey(r)
		want := wantMay(f, key)
		checkMay(t, "P5.1", f, key, want)
		if want {
			there++
		}
		if t.Failed() {
			return
		}
	}
	if there < 4000 || there > 36000 {
		t.Errorf("of 40000 random filters %d have the key: the test is too narrow", there)
	}
}
