/- The document's tables, reckoned out. Conditions: none. -/
import Derived.Test.YthmhjojabalddaaDoorRoot5
namespace Go.Proofs.YthmhjojabalddaaDoor
open Go Go.RowKit

set_option maxRecDepth 100000
theorem square_2 : rootL 2 2 = 1779033703 := by decide +kernel
theorem square_3 : rootL 3 2 = 3144134277 := by decide +kernel
theorem square_5 : rootL 5 2 = 1013904242 := by decide +kernel
theorem square_7 : rootL 7 2 = 2773480762 := by decide +kernel
theorem square_11 : rootL 11 2 = 1359893119 := by decide +kernel
theorem square_13 : rootL 13 2 = 2600822924 := by decide +kernel
theorem square_17 : rootL 17 2 = 528734635 := by decide +kernel
theorem square_19 : rootL 19 2 = 1541459225 := by decide +kernel
theorem cube_2 : rootL 2 3 = 1116352408 := by decide +kernel
theorem cube_3 : rootL 3 3 = 1899447441 := by decide +kernel
theorem cube_5 : rootL 5 3 = 3049323471 := by decide +kernel
theorem cube_7 : rootL 7 3 = 3921009573 := by decide +kernel
theorem cube_11 : rootL 11 3 = 961987163 := by decide +kernel
theorem cube_13 : rootL 13 3 = 1508970993 := by decide +kernel
theorem cube_17 : rootL 17 3 = 2453635748 := by decide +kernel
theorem cube_19 : rootL 19 3 = 2870763221 := by decide +kernel
theorem cube_23 : rootL 23 3 = 3624381080 := by decide +kernel
theorem cube_29 : rootL 29 3 = 310598401 := by decide +kernel
theorem cube_31 : rootL 31 3 = 607225278 := by decide +kernel
theorem cube_37 : rootL 37 3 = 1426881987 := by decide +kernel
theorem cube_41 : rootL 41 3 = 1925078388 := by decide +kernel
theorem cube_43 : rootL 43 3 = 2162078206 := by decide +kernel
theorem cube_47 : rootL 47 3 = 2614888103 := by decide +kernel
theorem cube_53 : rootL 53 3 = 3248222580 := by decide +kernel
theorem cube_59 : rootL 59 3 = 3835390401 := by decide +kernel
theorem cube_61 : rootL 61 3 = 4022224774 := by decide +kernel
theorem cube_67 : rootL 67 3 = 264347078 := by decide +kernel
theorem cube_71 : rootL 71 3 = 604807628 := by decide +kernel
theorem cube_73 : rootL 73 3 = 770255983 := by decide +kernel
theorem cube_79 : rootL 79 3 = 1249150122 := by decide +kernel
theorem cube_83 : rootL 83 3 = 1555081692 := by decide +kernel
theorem cube_89 : rootL 89 3 = 1996064986 := by decide +kernel
theorem cube_97 : rootL 97 3 = 2554220882 := by decide +kernel
theorem cube_101 : rootL 101 3 = 2821834349 := by decide +kernel
theorem cube_103 : rootL 103 3 = 2952996808 := by decide +kernel
theorem cube_107 : rootL 107 3 = 3210313671 := by decide +kernel
theorem cube_109 : rootL 109 3 = 3336571891 := by decide +kernel
theorem cube_113 : rootL 113 3 = 3584528711 := by decide +kernel
theorem cube_127 : rootL 127 3 = 113926993 := by decide +kernel
theorem cube_131 : rootL 131 3 = 338241895 := by decide +kernel
theorem cube_137 : rootL 137 3 = 666307205 := by decide +kernel
theorem cube_139 : rootL 139 3 = 773529912 := by decide +kernel
theorem cube_149 : rootL 149 3 = 1294757372 := by decide +kernel
theorem cube_151 : rootL 151 3 = 1396182291 := by decide +kernel
theorem cube_157 : rootL 157 3 = 1695183700 := by decide +kernel
theorem cube_163 : rootL 163 3 = 1986661051 := by decide +kernel
theorem cube_167 : rootL 167 3 = 2177026350 := by decide +kernel
theorem cube_173 : rootL 173 3 = 2456956037 := by decide +kernel
theorem cube_179 : rootL 179 3 = 2730485921 := by decide +kernel
theorem cube_181 : rootL 181 3 = 2820302411 := by decide +kernel
theorem cube_191 : rootL 191 3 = 3259730800 := by decide +kernel
theorem cube_193 : rootL 193 3 = 3345764771 := by decide +kernel
theorem cube_197 : rootL 197 3 = 3516065817 := by decide +kernel
theorem cube_199 : rootL 199 3 = 3600352804 := by decide +kernel
theorem cube_211 : rootL 211 3 = 4094571909 := by decide +kernel
theorem cube_223 : rootL 223 3 = 275423344 := by decide +kernel
theorem cube_227 : rootL 227 3 = 430227734 := by decide +kernel
theorem cube_229 : rootL 229 3 = 506948616 := by decide +kernel
theorem cube_233 : rootL 233 3 = 659060556 := by decide +kernel
theorem cube_239 : rootL 239 3 = 883997877 := by decide +kernel
theorem cube_241 : rootL 241 3 = 958139571 := by decide +kernel
theorem cube_251 : rootL 251 3 = 1322822218 := by decide +kernel
theorem cube_257 : rootL 257 3 = 1537002063 := by decide +kernel
theorem cube_263 : rootL 263 3 = 1747873779 := by decide +kernel
theorem cube_269 : rootL 269 3 = 1955562222 := by decide +kernel
theorem cube_271 : rootL 271 3 = 2024104815 := by decide +kernel
theorem cube_277 : rootL 277 3 = 2227730452 := by decide +kernel
theorem cube_281 : rootL 281 3 = 2361852424 := by decide +kernel
theorem cube_283 : rootL 283 3 = 2428436474 := by decide +kernel
theorem cube_293 : rootL 293 3 = 2756734187 := by decide +kernel
theorem cube_307 : rootL 307 3 = 3204031479 := by decide +kernel
theorem cube_311 : rootL 311 3 = 3329325298 := by decide +kernel
def primesN : List Nat := [2, 3, 5, 7, 11, 13, 17, 19, 23, 29, 31, 37, 41, 43, 47, 53, 59, 61, 67, 71, 73, 79, 83, 89, 97, 101, 103, 107, 109, 113, 127, 131, 137, 139, 149, 151, 157, 163, 167, 173, 179, 181, 191, 193, 197, 199, 211, 223, 227, 229, 233, 239, 241, 251, 257, 263, 269, 271, 277, 281, 283, 293, 307, 311]
def begN : List Nat := [1779033703, 3144134277, 1013904242, 2773480762, 1359893119, 2600822924, 528734635, 1541459225]
theorem primes_eval : primesL 310 = primesN := by decide +kernel
theorem begs_eval : begL (primesL 310) 64 = begN := by
  rw [primes_eval]
  show [rootL 2 2, rootL 3 2, rootL 5 2, rootL 7 2, rootL 11 2, rootL 13 2, rootL 17 2, rootL 19 2] = _
  rw [square_2, square_3, square_5, square_7, square_11, square_13, square_17, square_19]
  rfl
theorem steps_eval : stepL (primesL 310) 64 = cubesL := by
  rw [primes_eval]
  show [rootL 2 3, rootL 3 3, rootL 5 3, rootL 7 3, rootL 11 3, rootL 13 3, rootL 17 3, rootL 19 3, rootL 23 3, rootL 29 3, rootL 31 3, rootL 37 3, rootL 41 3, rootL 43 3, rootL 47 3, rootL 53 3, rootL 59 3, rootL 61 3, rootL 67 3, rootL 71 3, rootL 73 3, rootL 79 3, rootL 83 3, rootL 89 3, rootL 97 3, rootL 101 3, rootL 103 3, rootL 107 3, rootL 109 3, rootL 113 3, rootL 127 3, rootL 131 3, rootL 137 3, rootL 139 3, rootL 149 3, rootL 151 3, rootL 157 3, rootL 163 3, rootL 167 3, rootL 173 3, rootL 179 3, rootL 181 3, rootL 191 3, rootL 193 3, rootL 197 3, rootL 199 3, rootL 211 3, rootL 223 3, rootL 227 3, rootL 229 3, rootL 233 3, rootL 239 3, rootL 241 3, rootL 251 3, rootL 257 3, rootL 263 3, rootL 269 3, rootL 271 3, rootL 277 3, rootL 281 3, rootL 283 3, rootL 293 3, rootL 307 3, rootL 311 3] = _
  rw [cube_2, cube_3, cube_5, cube_7, cube_11, cube_13, cube_17, cube_19, cube_23, cube_29, cube_31, cube_37, cube_41, cube_43, cube_47, cube_53, cube_59, cube_61, cube_67, cube_71, cube_73, cube_79, cube_83, cube_89, cube_97, cube_101, cube_103, cube_107, cube_109, cube_113, cube_127, cube_131, cube_137, cube_139, cube_149, cube_151, cube_157, cube_163, cube_167, cube_173, cube_179, cube_181, cube_191, cube_193, cube_197, cube_199, cube_211, cube_223, cube_227, cube_229, cube_233, cube_239, cube_241, cube_251, cube_257, cube_263, cube_269, cube_271, cube_277, cube_281, cube_283, cube_293, cube_307, cube_311]
  rfl
end Go.Proofs.YthmhjojabalddaaDoor
