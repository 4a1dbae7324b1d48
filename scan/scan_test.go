package scan

import (
	"reflect"
	"strings"
	"testing"

	"colscan/api"
)

func TestStates(t *testing.T) {
	for _, c := range []struct {
		state state
		want  int
	}{
		{going, api.Going}, {done, api.Done}, {malformed, api.Malformed}, {badColumn, api.BadColumn}, {unavailable, api.Unavailable}, {cancelled, api.Cancelled},
	} {
		if int(c.state) != c.want {
			t.Errorf("P9: state %d, want %d", c.state, c.want)
		}
	}
}

func TestEndLeavesNothing(t *testing.T) {
	s, _ := Open(24, []string{"a"}, api.Settings{Window: 1, Tries: 1, Rows: 1})
	s.Cancel()
	if !reflect.DeepEqual(*s, Scan{state: cancelled}) {
		t.Errorf("P9: %+v is left", *s)
	}
}

func TestKeep(t *testing.T) {
	for _, c := range []struct {
		want string
		kept []string
	}{
		{"a", []string{"a"}},
		{"d c b a", []string{"d", "c", "b", "a"}},
		{"12345678", []string{"12345678"}},
		{"", nil},
		{"a b c d e", nil},
		{"a b a", nil},
		{"a 123456789", nil},
	} {
		if got := keep(strings.Fields(c.want)); !reflect.DeepEqual(got, c.kept) {
			t.Errorf("P7: %q: kept %q, want %q", c.want, got, c.kept)
		}
	}
}
