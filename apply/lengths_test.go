package apply

import (
	"testing"

	"vellum/api"
)

// P10.1: what no document within the bound of all promises is long enough for: the document behind has more cells than may be.
func TestP10_1Lengths(t *testing.T) {
	const most = api.MaxLength
	for _, x := range []struct {
		cells, base, result int
		want                error
	}{
		{0, 0, 0, nil},
		{3, 3, 9, nil},
		{3, 4, 4, api.ErrRange},
		{0, 0, most, nil},
		{1, 0, most, api.ErrLong},
		{1, 1, most, nil},
		{0, 1, most, api.ErrRange},
		{most, 0, 0, nil},
		{most, 0, 1, api.ErrLong},
		{most, 0, most, api.ErrLong},
		{most, 1, 1, nil},
		{most, 1, 2, api.ErrLong},
		{most, 2, 1, nil},
		{most, most, most, nil},
		{most, most, 0, nil},
		{most - 1, most, most, api.ErrRange},
		{most - 1, most, 0, api.ErrRange},
		{most - 1, 0, 1, nil},
		{most - 1, 0, 2, api.ErrLong},
	} {
		if err := checkLengths(x.cells, x.base, x.result); err != x.want {
			t.Errorf("%d cells, by %d to %d: %v, not %v", x.cells, x.base, x.result, err, x.want)
		}
	}
}
