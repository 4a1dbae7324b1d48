package file

import (
	"strings"
	"testing"

	"colscan/api"
)

// No table within the other bounds makes a file of more than MaxFile bytes, so the last check is tried from within.
func TestMaxFile(t *testing.T) {
	for _, c := range []struct {
		length int
		want   api.Errno
	}{
		{api.MaxFile - 1, api.OK}, {api.MaxFile, api.OK}, {api.MaxFile + 1, api.ErrTable},
	} {
		w := writer{pages: make([]byte, c.length-6-300), footer: make([]byte, 300)}
		file, err := w.finish()
		if err != c.want {
			t.Errorf("P3: a file of %d bytes: error %d, want %d", c.length, err, c.want)
		}
		if err == api.OK && (len(file) != c.length || !strings.HasSuffix(file, "\x01\x2cCOL1")) {
			t.Errorf("P3: a file of %d bytes has %d and ends with %x", c.length, len(file), file[len(file)-6:])
		}
		if err != api.OK && file != "" {
			t.Errorf("P1: %d bytes beside an error", len(file))
		}
	}
}
