package guard

import (
	"testing"

	"hopmesh/api"
)

// Depths within their range never have a spread that is too great for 0 slots: 64 links have a spread of 192. So longer paths are tried here.
func TestPathsThatAreTooLong(t *testing.T) {
	for _, c := range []struct {
		path  path
		slots int
		e     api.Errno
	}{
		{path{366, 0}, api.MaxRun, api.OK}, {path{367, 0}, 0, api.ErrConflict}, {path{366, api.MaxDrift}, 0, api.OK}, {path{367, api.MaxDrift}, 0, api.ErrConflict},
		{path{220, api.MaxDrift}, 1, api.OK}, {path{221, api.MaxDrift}, 0, api.OK}, {path{1000000, 1}, 0, api.ErrConflict},
	} {
		if slots, e := c.path.slots(); slots != c.slots || e != c.e {
			t.Errorf("%v: %d slots, error %d, want %d, error %d", c.path, slots, e, c.slots, c.e)
		}
	}
}

func TestNoDepthsAreTooGreat(t *testing.T) {
	for a := range api.MaxNodes + 1 {
		for b := range api.MaxNodes + 1 {
			for _, drift := range []int{0, 1, api.MaxDrift} {
				if slots, e := Slots(a, b, drift); e != api.OK {
					t.Errorf("%d, %d, %d: %d slots, error %d", a, b, drift, slots, e)
				}
			}
		}
	}
}
