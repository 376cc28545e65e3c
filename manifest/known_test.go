package manifest_test

import "lanyard/api"

// A knownManifest is one whose bytes, and whose hashes, were made apart from this program.
type knownManifest struct {
	manifest api.Manifest
	bytes    string
	contents []string // of its files, as OpenSSL hashed them
}

func hashOf(digits string) [32]byte {
	return [32]byte(bytesOf(digits))
}

// knownManifests are one without files, and one with three.
func knownManifests() []knownManifest {
	return []knownManifest{
		{
			manifest: api.Manifest{
				Number: 1,
				This:   1767225600, // 2026-01-01 00:00:00
				Next:   1767312000, // 2026-01-02 00:00:00
			},
			bytes: "3025020101301e170d3236303130313030303030305a170d3236303130323030303030305a3000",
		},
		{
			manifest: api.Manifest{
				Number: 4294967295,
				This:   2524607999, // 2049-12-31 23:59:59
				Next:   2524608000, // 2050-01-01 00:00:00
				Files: []api.File{
					{Name: "a.roa", Hash: hashOf("e3b0c44298fc1c149afbf4c8996fb92427ae41e4649b934ca495991b7852b855")},
					{Name: "b.cer", Hash: hashOf("ba7816bf8f01cfea414140de5dae2223b00361a396177a9cb410ff61f20015ad")},
					{Name: "ca.crl", Hash: hashOf("41edece42d63e8d9bf515a9ba6932e1c20cbc9f5a5d134645adb5db1b9737ea3")},
				},
			},
			bytes: "3081b1020500ffffffff3020170d3439313233313233353935395a180f32303530303130313030303030305a308185" +
				"302a1605612e726f61032100e3b0c44298fc1c149afbf4c8996fb92427ae41e4649b934ca495991b7852b855" +
				"302a1605622e636572032100ba7816bf8f01cfea414140de5dae2223b00361a396177a9cb410ff61f20015ad" +
				"302b160663612e63726c03210041edece42d63e8d9bf515a9ba6932e1c20cbc9f5a5d134645adb5db1b9737ea3",
			contents: []string{"", "abc", thousandA},
		},
	}
}

const (
	tenA      = "aaaaaaaaaa"
	hundredA  = tenA + tenA + tenA + tenA + tenA + tenA + tenA + tenA + tenA + tenA
	thousandA = hundredA + hundredA + hundredA + hundredA + hundredA + hundredA + hundredA + hundredA + hundredA + hundredA
)
