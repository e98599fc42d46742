package ascend

import "testing"

func TestAscend(t *testing.T) {
	for i, x := range []struct {
		l                 []int
		strictly, numbers bool
	}{{nil, true, true}, {[]int{3}, true, true}, {[]int{0, 4}, true, true}, {[]int{-1, 4}, true, false}, {[]int{0, 5}, true, false}, {[]int{1, 1}, false, false}, {[]int{2, 1}, false, false}} {
		if Strictly(x.l) != x.strictly || Numbers(x.l, 5) != x.numbers {
			t.Error(i)
		}
	}
	for i, x := range []struct {
		a, b string
		want int
	}{{"", "", 0}, {"abd", "bcd", 2}, {"bcd", "abd", 2}, {"abc", "", 0}, {"ac", "bd", 0}, {"abc", "abc", 3}} {
		if got := Common([]byte(x.a), []byte(x.b)); got != x.want {
			t.Error(i, got)
		}
	}
}
