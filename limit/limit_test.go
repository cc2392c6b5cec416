package limit_test

import (
	"math"
	"testing"

	"vista/api"
	"vista/limit"
)

// Each limit at its least and its most, and one beyond, beside others at theirs.
func TestRight(t *testing.T) {
	least := api.Conf{Clients: 1, Dentries: 1, Negative: 1, Promises: 1, Queue: 1}
	most := api.Conf{Clients: api.MaxClients, Dentries: api.MaxDentries, Negative: api.MaxNegative, Links: api.MaxLinks, Promises: api.MaxPromises, Queue: api.MaxQueue, Hold: api.MaxHold}
	for _, begin := range []api.Conf{least, most} {
		conf := begin
		for i, x := range []struct {
			at          *int
			least, most int
		}{
			{&conf.Clients, 1, api.MaxClients}, {&conf.Dentries, 1, api.MaxDentries}, {&conf.Negative, 1, api.MaxNegative},
			{&conf.Links, 0, api.MaxLinks}, {&conf.Promises, 1, api.MaxPromises}, {&conf.Queue, 1, api.MaxQueue}, {&conf.Hold, 0, api.MaxHold},
		} {
			conf = begin
			for _, n := range []int{math.MinInt, -1, x.least - 1, x.least, x.most, x.most + 1, math.MaxInt} {
				if *x.at = n; limit.Right(conf) != (n >= x.least && n <= x.most) {
					t.Errorf("limit %d as %d: %v", i, n, limit.Right(conf))
				}
			}
		}
	}
}

func TestWithin(t *testing.T) {
	for _, x := range []struct {
		n, least, most int
		want           bool
	}{
		{1, 1, 3, true}, {2, 1, 3, true}, {3, 1, 3, true}, {0, 1, 3, false}, {4, 1, 3, false},
		{0, 0, 0, true}, {-1, 0, 0, false}, {2, 3, 1, false},
		{math.MinInt, math.MinInt, math.MaxInt, true}, {math.MaxInt, math.MinInt, math.MaxInt, true}, {math.MinInt, 0, math.MaxInt, false},
	} {
		if limit.Within(x.n, x.least, x.most) != x.want {
			t.Errorf("Within(%d, %d, %d): %v", x.n, x.least, x.most, !x.want)
		}
	}
}
