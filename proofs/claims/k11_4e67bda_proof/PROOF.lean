import PyProof.Rows.All
import Wide.All
import OpenK.AllK
import Wide.FinOn
import Lean
import PyProof.EqAt
import PyProof.EqKinds
import PyProof.TupleCall
import PyProof.ZipIter
import PyProof.Rows.ZipGen
import PyProof.SumWalkG
import PyProof.EnumMake
import PyProof.EnumFor
import PyProof.FactsAll.int_6
import PyProof.AutoIntG2
import PyProof.RulesAs
import PyProof.Rows.TopTwo
import PyProof.ExcArgsOwn
import PyProof.ExcBaseAll.ValueError
import OpenK.KDescr
import KE.RegKIsAll
import PyProof.EqKinds
import KE.KRevIter
import PyProof.ListNew
import KE.KItemsList
import KE.KLam
import KE.KMinKey
import PyProof.NeKinds
import PySem.Challenge.RW_limbtables_k11_backs_and_columns
noncomputable section
abbrev Jaa:=@List.getElem?_eq_getElem
abbrev Jab:=@List.length_map
abbrev Jac:=@List.getD_eq_getElem?_getD
abbrev Jad:=@List.getElem?_map
abbrev Jae:=@List.mem_of_getElem?
abbrev Jaf:=@PySem.wpAny_bind
abbrev Jag:=@Nat.le_refl
abbrev Jah:=@List.getElem?_eq_some_iff
abbrev Jai:=@PySem.Heap.get?_push_of_some
abbrev Jaj:=@List.getElem?_eq_none
abbrev Jak:=@PySem.Heap.lt_size
abbrev Jal:=@List.mem_append
abbrev Jam:=@List.length_append
abbrev Jan:=@PySem.wpAny_pure
abbrev Jao:=@List.length_range
abbrev Jap:=@List.mem_map
abbrev Jaq:=@List.size_toArray
abbrev Jar:=@List.mem_or_eq_of_mem_set
abbrev Jas:=@List.mem_iff_getElem
abbrev Jat:=@Nat.le_trans
abbrev Jau:=@Int.toNat_natCast
abbrev Jav:=@List.getElem?_range
abbrev Jaw:=@List.getElem_mem
abbrev Jax:=@Bool.false_ne_true
abbrev Jay:=@List.length_set
abbrev Jaz:=@Nat.mul_le_mul
abbrev Ja0:=@Nat.lt_of_lt_of_le
abbrev Ja1:=@List.mem_singleton
abbrev Ja2:=@List.mem_append_right
abbrev Ja3:=@Classical.byContradiction
abbrev Ja4:=@List.mem_range
abbrev Ja5:=@PySem.Heap.get?_push_size
abbrev Ja6:=@Nat.ne_of_lt
abbrev Ja7:=@of_decide_eq_true
abbrev Ja8:=@PySem.PassesOwn.never
abbrev Ja9:=@List.length_replicate
abbrev Jba:=@List.lookup_cons
abbrev Jbb:=@List.getElem?_append_right
abbrev Jbc:=@decide_eq_true
abbrev Jbd:=@List.getElem?_append_left
abbrev Jbe:=@List.map_append
abbrev Jbf:=@List.length_take
abbrev Jbg:=@Int.emod_lt_of_pos
abbrev Jbh:=@Nat.pow_le_pow_right
abbrev Jbi:=@List.set_cons_zero
abbrev Jbj:=@Nat.two_pow_pos
abbrev Jbk:=@PySem.F.plainAttrs_list
abbrev Jbl:=@PySem.mem_of_lookup
abbrev Jbm:=@List.length_drop
abbrev Jbn:=@List.pairwise_iff_getElem
abbrev Jbo:=@Nat.lt_of_le_of_lt
abbrev Jbp:=@Option.some.inj
abbrev Jbq:=@PyProof.Rows.callWith_type1
abbrev Jbr:=@Int.emod_nonneg
abbrev Jbs:=@Nat.lt_irrefl
abbrev Jbt:=@PySem.F.slot_list_append
abbrev Jbu:=@PySem.F.type_list_append
abbrev Jbv:=@Int.gcd_dvd_left
abbrev Jbw:=@List.getElem?_replicate
abbrev Jbx:=@beq_iff_eq
abbrev Jby:=@Nat.ne_of_gt
abbrev Jbz:=@PySem.wpAny_mono
abbrev Jb0:=@Int.gcd_dvd_right
abbrev Jb1:=@List.mem_of_mem_eraseIdx
abbrev Jb2:=@Int.fdiv_eq_ediv_of_nonneg
abbrev Jb3:=@Nat.zero_le
abbrev Jb4:=@decide_eq_false
abbrev Jb5:=@Classical.choose_spec
abbrev Jb6:=@Nat.add_mul
abbrev Jb7:=@Bool.and_eq_true
abbrev Jb8:=@List.mem_cons
abbrev Jb9:=@PySem.wpAny_truthy_bool
abbrev Jca:=@PySem.wpAny_holding
abbrev Jcb:=@Nat.le_of_succ_le
abbrev Jcc:=@List.mem_cons_of_mem
abbrev Jcd:=@Nat.le_of_lt
abbrev Jce:=@List.set_cons_succ
abbrev Jcf:=@PySem.F.plain_min_loop
abbrev Jcg:=@Ne.symm
abbrev Jch:=@PySem.W.kia_one
abbrev Jci:=@List.length_cons
abbrev Jcj:=@List.all_eq_true
abbrev Jck:=@Int.ediv_mul_cancel
abbrev Jcl:=@Nat.lt_succ_of_lt
abbrev Jcm:=@List.ext_getElem?
abbrev Jcn:=@Bool.false_eq_true
abbrev Jco:=@List.mem_of_mem_drop
abbrev Jcp:=@PySem.Heap.get?_update_other
abbrev Jcq:=@List.replicate_succ
abbrev Jcr:=@Int.toNat_of_nonneg
abbrev Jcs:=@Int.emod_eq_of_lt
abbrev Jct:=@List.map_congr_left
abbrev Jcu:=@List.getElem?_set
abbrev Jcv:=@List.eraseIdx_eq_take_drop_succ
abbrev Jcw:=@List.getElem?_drop
abbrev Jcx:=@decide_eq_true_iff
abbrev Jcy:=@List.mem_of_mem_take
abbrev Jcz:=@PySem.Heap.size_push
abbrev Jc0:=@PySem.wpAny_newObj_type
abbrev Jc1:=@PySem.wpAny_field
abbrev Jc2:=@Int.mul_pos
abbrev Jc3:=@PySem.wpAny_updateSeq
abbrev Jc4:=@List.range_succ
abbrev Jc5:=@PyProof.Rows.boot_isinstance
abbrev Jc6:=@List.mem_cons_self
abbrev Jc7:=@PySem.wpAny_standAt
abbrev Jc8:=@PySem.Heap.get?_update_self
abbrev Jc9:=@Int.natAbs_mul
abbrev Jda:=@PySem.Around.under_plainId
abbrev Jdb:=@List.mem_filter
abbrev Jdc:=@PySem.wpAny_passesOwn
abbrev Jdd:=@Bool.eq_iff_iff
abbrev Jde:=@List.getElem?_take_of_lt
abbrev Jdf:=@if_true
abbrev Jdg:=@PyProof.Rows.slot_tuple_getitem
abbrev Jdh:=@Bool.or_eq_true
abbrev Jdi:=@List.mk_mem_zipIdx_iff_getElem?
abbrev Jdj:=@Int.mul_le_mul_of_nonneg_right
abbrev Jdk:=@beq_eq_false_iff_ne
abbrev Jdl:=@PySem.wpAny_callSpecial?_slot
abbrev Jdm:=@Nat.mul_assoc
abbrev Jdn:=@Nat.le_add_right
abbrev Jdo:=@Int.mul_nonneg
abbrev Jdp:=@PySem.wpAny_tryCatch
abbrev Jdq:=@PySem.boot_len
abbrev Jdr:=@PySem.W.cellsFrom_some
abbrev Jds:=@List.take_of_length_le
abbrev Jdt:=@PySem.wpAny_Call_Name_kw
abbrev Jdu:=@if_false
abbrev Jdv:=@Int.gcd_pos_of_ne_zero_right
abbrev Jdw:=@PySem.F.slot_enumerate_next
abbrev Jdx:=@PySem.F.slot_int_bit_length
abbrev Jdy:=@PySem.F.type_int_bit_length
abbrev Jdz:=@congrArg
abbrev Jd0:=@PySem.wpAny_pyIter_list
abbrev Jd1:=@List.flatten_cons
abbrev Jd2:=@Int.natAbs_of_nonneg
abbrev Jd3:=@PySem.intBits_le_iff
abbrev Jd4:=@PySem.wpAny_seqItems
abbrev Jd5:=@PySem.F.plain_extend_loop
abbrev Jd6:=@List.length_zipWith
abbrev Jd7:=@Option.isSome_iff_exists
abbrev Jd8:=@PySem.wpAny_comprehension_free
abbrev Jd9:=@Nat.pow_succ
abbrev Jea:=@List.eq_of_mem_replicate
abbrev Jeb:=@PySem.codeAny_builtin
abbrev Jec:=@PySem.plainId_quiet
abbrev Jed:=@List.length_nil
abbrev Jee:=@PySem.wpAny_pyNext_list_item
abbrev Jef:=@PySem.F.entry_min_loop
abbrev Jeg:=@Int.fmod_nonneg_of_pos
abbrev Jeh:=@PySem.F.plainAttrs_int
abbrev Jei:=@PySem.wpAny_pyNext_list_end
abbrev Jej:=@Nat.lt_trans
abbrev Jek:=@Int.emod_add_mul_ediv
abbrev Jel:=@Nat.lt_succ_self
abbrev Jem:=@PySem.wpAny_call_entry
abbrev Jen:=@List.any_eq_true
abbrev Jeo:=@Nat.pow_lt_pow_right
abbrev Jep:=@List.getElem?_zipIdx
abbrev Jeq:=@List.filterMap_cons
abbrev Jer:=@Array.length_toList
abbrev Jes:=@PySem.wpAny_execs_nil
abbrev Jet:=@PySem.W.plainGet_of
abbrev Jeu:=@List.nodup_cons
abbrev Jev:=@PySem.wpAny_letGo
abbrev Jew:=@Int.ediv_nonneg
abbrev Jex:=@PySem.Heap.SameBut.update
abbrev Jey:=@Nat.mul_pos
abbrev Jez:=@Int.natCast_nonneg
abbrev Je0:=@PySem.Calls.spliced_cons
abbrev Je1:=@PySem.codeAny_mono
abbrev Je2:=@PySem.W.callWith_K
abbrev Je3:=@Nat.mul_comm
abbrev Je4:=@PySem.SeqAt.EqAt.of_refs
abbrev Je5:=@Int.gcd_comm
abbrev Je6:=@PySem.W.KFB.if_not
abbrev Je7:=@PySem.wpAny_setField_rec
abbrev Je8:=@Int.mul_comm
abbrev Je9:=@Int.fmod_lt_of_pos
abbrev Jfa:=@List.length_zipIdx
abbrev Jfb:=@PySem.Calls.spliced_nil
abbrev Jfc:=@Int.lt_trichotomy
abbrev Jfd:=@PySem.wpAny_pyIter_enum
abbrev Jfe:=@List.take_add_one
abbrev Jff:=@Nat.lt_trichotomy
abbrev Jfg:=@Nat.le_succ
abbrev Jfh:=@Prod.ext
abbrev Jfi:=@Bool.and_true
abbrev Jfj:=@Nat.pow_add
abbrev Jfk:=@PyProof.Rows.boot_abs
abbrev Jfl:=@List.map_drop
abbrev Jfm:=@PySem.wpAny_rule
abbrev Jfn:=@PySem.call_meets
set_option compiler.postponeCompile true
set_option bootstrap.genMatcherCode false
set_option genSizeOf false
theorem oz1 {a b c:Nat} (h0:a - (b + 1)<=c) (h1:¬c = a - 1 - b):a - b<=c:=by omega
theorem oz2 {z y:Int} (h0:(0:Int)<=z) (h1:z < y):z.natAbs<=y.natAbs:=by omega
theorem oz3 {a:Nat} (h0:a<=24):a<=200:=by omega
theorem oz4 {a b c d e:Nat} (h0:a = b) (h1:c = a) (h2:a = d) (h3:b = e):min d e = c:=by omega
theorem oz5 {a b c:Nat} (h0:a - (b + 1) = c + 1):a - (b + 1 + 1) = c:=by omega
theorem oz6 {a:Nat} (h0:a<=24):a + a<=48:=by omega
theorem oz7 {a b:Nat} {z y x Z:Int} (h0:(z * y).natAbs<=a * b) (h1:(x * Z).natAbs<=b * a) (h2:b * a = a * b) (h3:2 * a * b = a * b + a * b):(z * y + x * Z).natAbs<=2 * a * b:=by omega
theorem oz9 {a b:Nat}:a + b - a = b:=by omega
theorem oz10 {a b:Nat} (h0:a<=b) (h1:¬a = b):a < b:=by omega
theorem oz11 {a b c:Nat} (h0:a - b = c + 1):a - (b + 1) = c:=by omega
theorem oz12 {a b:Nat} (h0:a < b + 1) (h1:¬a < b):a = b:=by omega
theorem Zck {a b c:Nat} (h0:a = b) (h1:c < b):c < a:=by omega
theorem oz14 {a b c d:Nat} (h0:a = b) (h1:c = min d a):c = min d b:=by omega
theorem Zhu {a b c:Nat} (h0:a < b) (h1:c = b):a < c:=by omega
theorem oz16 {z y x Z Y X:Int} (h0:(0:Int)<=z) (h1:(0:Int)<=y) (h2:(x * y + Z * z).natAbs + (Y * y + X * z).natAbs < (y + z).natAbs):(↑(x * y + Z * z).natAbs:Int) + (↑(Y * y + X * z).natAbs:Int) < y + z:=by omega
theorem oz17 {a b c d e:Nat} (h0:a = b) (h1:c = a) (h2:d + e = c):d - 1<=b - 1:=by omega
theorem oz18 {z y x Z:Int}:(0:Int)<=(↑(z * y + x * Z).natAbs:Int):=by omega
theorem oz19 {a b:Nat} (h0:a = b):b = a:=by omega
theorem oz20 {a b c:Nat} (h0:a = b):a - 1 - c = b - 1 - c:=by omega
theorem oz21 {a b:Nat} (h0:a < b):b - (a + 1) < b - a:=by omega
theorem oz22 {a b c:Nat} (h0:a = b) (h1:c = a):b = c:=by omega
theorem Ze3 {a:Nat}:(0:Int)<=(↑a:Int):=by omega
theorem oz24 {a b:Nat} (h0:a<=24) (h1:b = a):b<=900:=by omega
theorem Zmp {a b:Nat} (h0:a < b + 1) (h1:¬a = b):a < b:=by omega
theorem oz26 {a b c d:Nat} (h0:a = b) (h1:c = a) (h2:d = c):d = b:=by omega
theorem oz27 {a b c d:Nat} (h0:a = b) (h1:a = c) (h2:b = d):c = d:=by omega
theorem Zma {a:Nat} (h0:a<=24):(↑a:Int)<=(24:Int):=by omega
theorem oz29 {z y x:Int} (h0:z<=(97:Int)) (h1:y<=z) (h2:(0:Int)<=y / x) (h3:y / x<=y):(y / x).natAbs<=97:=by omega
theorem oz30 {a b:Nat} {z:Int} (h0:(↑a:Int) = z) (h1:b = a):(↑b:Int) = z:=by omega
theorem oz31 {a:Nat} {z y:Int} (h0:z.natAbs < a) (h1:y.natAbs < a):(z + y).natAbs < a * 2:=by omega
theorem Ze2 {a b c:Nat} (h0:a = b) (h1:c < a):c < b:=by omega
theorem oz33 {z:Int} (h0:z.natAbs = 1):z = (1:Int)\/z = (-1:Int):=by omega
theorem oz34 {a b c:Nat} (h0:0 < ((a + 1) * b + 1) * c):((a + 1) * b + 1) * c - 1 + 1 = ((a + 1) * b + 1) * c:=by omega
theorem oz35 {a b c d e:Nat} (h0:a = b) (h1:c = a) (h2:d + e = c) (h3:0 < e):d<=b - 1:=by omega
theorem oz36 {a b c d e f:Nat} (h0:a<=900) (h1:b = a) (h2:c = b) (h3:d = c) (h4:e = min f d):d + e<=2000:=by omega
theorem oz37 {a:Nat} {z y:Int} (h0:z.natAbs < a) (h1:y.natAbs < a):(z - y).natAbs < a * 2:=by omega
theorem oz38 {a b c d e f:Nat} (h0:a<=900) (h1:b = a) (h2:c<=900) (h3:d = b) (h4:e = d) (h5:2000<=f):c + ((↑e:Int) - (↑c:Int)).toNat * 1<=f:=by omega
theorem oz39 {a b c:Nat}:min (a - 1 - b) c + (c - (a - 1 - b)) = c:=by omega
theorem oz40 {a b:Nat} (h0:a<=b):a + (b - a) = b:=by omega
theorem oz41 {a b:Nat} (h0:¬a < b) (h1:¬a = b):1<=a - b:=by omega
theorem oz42 {a b:Nat} {z y x Z:Int} (h0:2 * a * b<=10000000000000000000000000000000) (h1:(z * y).natAbs<=a * b) (h2:(x * Z).natAbs<=a * b) (h3:2 * a * b = 2 * (a * b)):(z * y - x * Z).natAbs<=100000000000000000000000000000000000000000000000000000000000000000000000000000000:=by omega
theorem oz43 {a b:Nat} {z y x Z:Int} (h0:2 * a * b<=10000000000000000000000000000000) (h1:(z * y).natAbs<=a * b) (h2:(x * Z).natAbs<=a * b) (h3:2 * a * b = 2 * (a * b)):(z * y + x * Z).natAbs<=100000000000000000000000000000000000000000000000000000000000000000000000000000000:=by omega
theorem oz44 {a b c d e f:Nat} (h0:a + b = c) (h1:a = d) (h2:e = c) (h3:f = e):f = d + ((↑f:Int) - (↑d:Int)).toNat:=by omega
theorem oz45 {a b c d:Nat} (h0:((a + 1) * b + 1) * c<=((a + 1) * b + 1) * d):((a + 1) * b + 1) * c - 1<=((a + 1) * b + 1) * d - 1:=by omega
theorem oz46 {a b c d e f:Nat} (h0:a = b) (h1:c<=d) (h2:e = a) (h3:d + f = e) (h4:¬c<=b - 1):c = d:=by omega
theorem oz47 {a:Nat}:((0:Int) + (↑a:Int)).toNat = a:=by omega
theorem oz48 {a b:Nat} {z y:Int} (h0:z.natAbs<=a * b) (h1:y.natAbs<=b):(z + y).natAbs<=a * b + b:=by omega
theorem oz49 {a b c:Nat} (h0:¬(a < b/\a < c)) (h1:a < c):b + (a - min b c) = a:=by omega
theorem oz50 {a b c:Nat} (h0:a < b + 1) (h1:c < b + 1) (h2:¬c < b) (h3:¬a < b):a = c:=by omega
theorem oz51 {a b c:Nat} (h0:¬a < b) (h1:c < b):¬a = c:=by omega
theorem oz52 {z y x:Int} (h0:z < y) (h1:y<=x):z<=x:=by omega
theorem oz53 {a b:Nat} (h0:a<=b + 1) (h1:¬a = b + 1):a<=b:=by omega
theorem oz54 {a b c:Nat} (h0:a < b - c):c + a < b:=by omega
theorem oz55 {a:Nat} {z:Int} (h0:z<=(↑a:Int)):min z.toNat a = z.toNat:=by omega
theorem oz56 {a b c d e:Nat} (h0:a = b) (h1:c = min d a) (h2:e < c):e < min d b:=by omega
theorem oz57 {a b c d:Nat} (h0:a = b):min (c - 1 - d) a + (a - (c - 1 - d)) = b:=by omega
theorem oz58 {a b c:Nat} (h0:a = b) (h1:c = a):c = b:=by omega
theorem oz59 {a:Nat}:((↑a:Int) - (126:Int)).toNat = a - 126:=by omega
theorem Zr4 {a b c:Nat} (h0:a<=b) (h1:c < a):c < b:=by omega
theorem oz61 {a b:Nat} (h0:a < b):a < b:=by omega
theorem oz62 {a b c d:Nat} (h0:a = b) (h1:c = a) (h2:d < c):d < b:=by omega
theorem oz63 {a b c:Nat} (h0:a<=b) (h1:b < c):b - a < c - a:=by omega
theorem oz64 {a b c d:Nat} (h0:a = b) (h1:b = c) (h2:d < c):d < a:=by omega
theorem oz65 {a b c:Nat}:min (a - b) (c - b)<=c:=by omega
theorem oz66 {a b:Nat} (h0:7<=a) (h1:(a + 1) * 1<=(a + 1) * b):7<=(a + 1) * b - 1:=by omega
theorem oz67 {a b:Nat} (h0:0 < (a + 1) * b):(a + 1) * b * 2 - 1 = 2 * ((a + 1) * b - 1) + 1:=by omega
theorem oz68 {a b c d e:Nat} (h0:a<=900) (h1:b = a) (h2:c = b) (h3:d = c):min e d<=1000:=by omega
theorem oz69 {a b c d e:Nat} (h0:a<=24) (h1:b = a) (h2:c = b) (h3:d < c) (h4:e<=300 + d):e<=1000:=by omega
theorem Zs3 {a b:Nat} (h0:a<=b) (h1:¬a < b):a = b:=by omega
theorem Zhf {a b:Nat} (h0:¬a < b):b<=a:=by omega
theorem oz72 {a b c d:Nat} (h0:a < b) (h1:c + b = d):c + (0 + 1) + (b - 1) = d:=by omega
theorem oz73 {a b c d:Nat} (h0:a = b) (h1:c < d) (h2:d<=a):c < b:=by omega
theorem oz74 {z:Int}:(0:Int)<=(↑z.natAbs:Int):=by omega
theorem oz75 {a:Nat} (h0:126<=a):64 + (a - 126) = a - 62:=by omega
theorem oz76 {a b:Nat} (h0:a < b + (0 + 1)) (h1:¬a < b):a = b:=by omega
theorem oz77 {a b:Nat}:min a (a + b) = a:=by omega
theorem oz78 {a b:Nat} (h0:a + 1<=b):b - 1 - a < b:=by omega
theorem oz79 {a b c:Nat} (h0:a = b) (h1:¬c < a) (h2:c - a = 0):c = b:=by omega
theorem oz80 {z y x:Int} (h0:z<=(97:Int)) (h1:y < x) (h2:x<=z) (h3:(1:Int) < y):y.natAbs<=97:=by omega
theorem oz81 {a:Nat} {z:Int} (h0:(0:Int)<=z) (h1:a = z.toNat):(↑a:Int) = z:=by omega
theorem oz82 {a b c d:Nat} (h0:a = b) (h1:c = b) (h2:d < c):d < a:=by omega
theorem oz83 {a b c:Nat} (h0:a < b) (h1:c < a):c < b:=by omega
theorem oz84 {a b:Nat} (h0:7<=(a + 1) * b - 1):(a + 1) * b * 2 - 1 = 2 * ((a + 1) * b - 1) + 1:=by omega
theorem oz85 {a:Nat} {z:Int} (h0:(↑a:Int) = z):a = z.toNat:=by omega
theorem oz86 {a b c d e f:Nat} (h0:a<=900) (h1:b = a) (h2:c = b) (h3:d = c) (h4:2000<=e):1 * ((↑d:Int) - (↑f:Int)).toNat<=e:=by omega
theorem oz87 {a b:Nat} {z:Int} (h0:z<=(24:Int)) (h1:a < z.toNat) (h2:b = a):b<=1000:=by omega
theorem oz88 {a b:Nat} {z y x:Int} (h0:(0:Int) < z) (h1:z<=y * x) (h2:(y * x).natAbs<=a * b):z.natAbs<=a * b:=by omega
theorem oz89 {a b c:Nat} (h0:a < min b c):a < b:=by omega
theorem oz90 {z y x:Int} (h0:z<=(97:Int)) (h1:y < x) (h2:x<=z):y < (1073741824:Int):=by omega
theorem oz91 {a b c:Nat} (h0:¬a<=b - 1) (h1:a = c):0 < c:=by omega
theorem oz92 {a b c:Nat} (h0:a < min b c):a < c:=by omega
theorem oz93 {a b c:Nat} (h0:7<=(a + 1) * b) (h1:((a + 1) * b + 1) * 1<=((a + 1) * b + 1) * c):7<=((a + 1) * b + 1) * c - 1:=by omega
theorem oz94 {a b:Nat} (h0:7<=a):7<=b * a + 1 * a:=by omega
theorem oz95 {a b:Nat} (h0:¬a - b = 0):1<=a - b:=by omega
theorem oz96 {a:Nat} {z:Int} (h0:z<=(24:Int)) (h1:(↑a:Int) = z):a<=1000:=by omega
theorem oz97 {a b c d:Nat} (h0:a<=b) (h1:b < c) (h2:d < a):d < c:=by omega
theorem oz98 {a:Nat}:((-1:Int) + (↑a:Int)).toNat = a - 1:=by omega
theorem oz99 {a b c d e:Nat} (h0:a<=900) (h1:b = a) (h2:c = b) (h3:d = c):(↑d:Int) - (↑e:Int) < (2:Int) ^ 63:=by omega
theorem oz100 {a b c:Nat} (h0:a = b) (h1:¬c < b):a<=c:=by omega
theorem Zs8 {a b c:Nat} (h0:a = b) (h1:c = b):a = c:=by omega
theorem oz102 {a b:Nat}:((↑a:Int) + (↑b:Int)).toNat = a + b:=by omega
theorem oz103 {a b:Nat} (h0:4 * a + 2<=b):2 * a<=b:=by omega
theorem Zgy {z:Int} (h0:(1:Int) < z):(0:Int) < z:=by omega
theorem oz105 {a b c d:Nat} (h0:a = b) (h1:a = c) (h2:d < c):d < b:=by omega
theorem oz106 {a b c:Nat} (h0:¬a < b):b<=c + (a - min c b):=by omega
theorem Zs7 {a:Nat} {z:Int} (h0:a < z.toNat):(↑a:Int) < z:=by omega
theorem oz108 {a b c d e:Nat} (h0:a<=200) (h1:b = a) (h2:c < b) (h3:d = min c e):d<=1000:=by omega
theorem Zom {a:Nat} (h0:a<=900):a<=1000:=by omega
theorem oz110 {a b c d e:Nat} (h0:a = b) (h1:c = a) (h2:d<=e) (h3:e < b):e - d < c - d:=by omega
theorem oz111 {a b c:Nat} (h0:a = b) (h1:c < b + (0 + 1)) (h2:¬c < b):c = a:=by omega
theorem oz113 {a b c d:Nat} (h0:a + b<=c):b + (a - d)<=c:=by omega
theorem oz114 {a:Nat}:a - 62<=a - 1:=by omega
theorem oz115 {a b:Nat} (h0:a<=b) (h1:b<=a):a = b:=by omega
theorem oz116 {a b c:Nat} (h0:a<=b) (h1:c = b) (h2:¬a = b):a < c:=by omega
theorem oz117 {a b c:Nat} (h0:a<=24) (h1:b = a) (h2:c = b):c<=1000:=by omega
theorem Zfw {a b:Nat} (h0:a < b):a < b + 1:=by omega
theorem oz119 {z y x Z Y:Int} (h0:(0:Int)<=z % y) (h1:z % y < y) (h2:y<=x * y) (h3:z + y + (18446744073709551616:Int)<=Z + Y):y + (z - x * y) + (18446744073709551616:Int)<=Z + Y:=by omega
theorem oz120 {a b c:Nat} (h0:a < b + 1) (h1:c ≠ a) (h2:¬a < b):c ≠ b:=by omega
theorem Zld {z:Int} (h0:(0:Int) < z):(0:Int)<=z:=by omega
theorem oz122 {a b c d:Nat} (h0:((a + 1) * b + 1) * c<=d):((a + 1) * b + 1) * c - 1<=d:=by omega
theorem oz123 {a b c:Nat} (h0:a < b) (h1:¬c < b):¬c = a:=by omega
theorem oz124 {z y x Z:Int} (h0:z < (85070591730234615865843651857942052864:Int)) (h1:y<=z) (h2:x<=z + y) (h3:(0:Int)<=x / Z) (h4:x / Z<=x):(x / Z).natAbs < 170141183460469231731687303715884105728:=by omega
theorem Zs6 {a b c:Nat} (h0:a = b) (h1:¬c < a):b<=c:=by omega
theorem Zmr {z:Int} (h0:(18446744073709551616:Int)<=z):(0:Int)<=z:=by omega
theorem oz127 {a b c d:Nat} (h0:a = b) (h1:b = c) (h2:d = a):d = c:=by omega
theorem oz128 {a b:Nat} (h0:a<=900) (h1:b = a):b<=900:=by omega
theorem oz129 {z y:Int} (h0:z<=(24:Int)) (h1:y < z + (1:Int)):y.toNat<=24:=by omega
theorem Zlc {z:Int} (h0:(0:Int)<=z) (h1:¬(0:Int) < z):z = (0:Int):=by omega
theorem oz131 {a b:Nat}:(a + 1) * b - 1<=(a + 1) * b * 4 - 1:=by omega
theorem oz132 {z y x:Int} (h0:z % y < y) (h1:z - x * y = z % y):z - x * y<=y:=by omega
theorem oz133 {a b c:Nat} (h0:a < b) (h1:b < c + 1):a < c:=by omega
theorem oz134 {a b:Nat} {z:Int} (h0:(↑a:Int) = z) (h1:(↑b:Int) = z):b = a:=by omega
theorem oz135 {a b c d:Nat} (h0:a + b = c) (h1:d < b):a + 1 + (b - 1) = c:=by omega
theorem oz136 {z y x Z:Int} (h0:(0:Int)<=z) (h1:(0:Int)<=y) (h2:z + y < x + Z):(z + y).toNat < (x + Z).toNat:=by omega
theorem oz137 {a b c d:Nat} (h0:a = b) (h1:c = d) (h2:a = c):b = d:=by omega
theorem Zs5 {a b:Nat}:a<=a + b:=by omega
theorem oz139 {a b c:Nat} (h0:a - b = c + 1):b < a:=by omega
theorem Zmq {a b c:Nat} (h0:a<=1000) (h1:b < a) (h2:c = b):c<=1000:=by omega
theorem oz141 {a b c d e:Nat} (h0:a = b) (h1:c = a) (h2:d < c - e):e + d < b:=by omega
theorem oz142 {z y:Int} (h0:(1:Int) * z<=y * z):z<=y * z:=by omega
theorem oz143 {z y:Int} (h0:z < y) (h1:(1:Int) < z):(0:Int)<=y:=by omega
theorem oz144 {a b c d:Nat} (h0:a<=900) (h1:b = a) (h2:c = b) (h3:d = c):d<=1000:=by omega
theorem oz145 {a b:Nat} (h0:a<=24) (h1:b = a):b<=1000:=by omega
theorem Zs4 {a b:Nat}:¬a + b < a:=by omega
theorem oz147 {a b c d:Nat} (h0:a = b) (h1:c<=a) (h2:d < c):d < b:=by omega
theorem oz148 {a b c d:Nat} (h0:a = b) (h1:c = d) (h2:a ≠ c):¬b = d:=by omega
theorem oz149 {z y:Int} (h0:(0:Int)<=z) (h1:(0:Int)<=y):(0:Int)<=y + z:=by omega
theorem oz151 {a b c:Nat} (h0:a < b) (h1:c = b):(↑a:Int)<=(↑c:Int):=by omega
theorem oz152 {a b c d:Nat} (h0:a = b) (h1:c = d) (h2:c<=b) (h3:a<=d):a = c:=by omega
theorem oz153 {a b c d e f g i j k:Nat} {z y x Z Y X W V U:Int} (h0:(0:Int)<=z) (h1:z < y) (h2:(0:Int)<=x) (h3:a<=b + (c + d)) (h4:e<=f + (g + i)) (h5:(↑j:Int) = Z + Y) (h6:(↑k:Int) = y) (h7:c<=4611686018427387903 * k) (h8:d<=4611686018427387903 * k) (h9:g<=4611686018427387903 * k) (h10:i<=4611686018427387903 * k) (h11:(↑b:Int) = X) (h12:(↑f:Int) = W) (h13:Z = V + z) (h14:Y = U + x) (h15:X + W + y * (18446744073709551616:Int)<=V + U):a + e < j:=by omega
theorem oz154 {a b:Nat} (h0:a < b):a<=b:=by omega
theorem Zj6 {z:Int} (h0:(1:Int) < z):z ≠ (0:Int):=by omega
theorem oz156 {a b c d:Nat} (h0:a<=24) (h1:b = a) (h2:c = b):c - d<=24:=by omega
theorem oz157 {a b c:Nat} (h0:a = b) (h1:c < a):b - 1 - c < a:=by omega
theorem oz158 {a b c d e f:Nat} (h0:a = b) (h1:a + c = d) (h2:e = d) (h3:f < b):f < e:=by omega
-- CHANGE: your row's module here,as the last of these rows
set_option Elab.async false
set_option linter.all false
set_option maxRecDepth 100000
namespace L2
open PySem PySem.Spec PyProof.Rows
abbrev Key:=Sum Int Str
def keyIs:Key->Value->Bool
 | .inl k,v=>Value.isInt k v
 | .inr x,v=>Value.isStrOf x v
def keyH (w:World):Key->Int
 | .inl k=>hashInt k
 | .inr x=>hashStr w x
theorem Zbt:∀ {k:Key} {v:Value},keyIs k v = true->(∃ i t,k = Sum.inl i/\v = Value.int i t)\/(∃ x t,k = Sum.inr x/\v = Value.str x t)
 | .inl i,v,h=>by
  obtain ⟨t,e⟩:=Value.isInt_shape (k:=i) (v:=v) h;exact .inl ⟨i,t,rfl,e⟩
 | .inr x,v,h=>by
  obtain ⟨t,e⟩:=Value.isStrOf_shape (x:=x) (v:=v) h;exact .inr ⟨x,t,rfl,e⟩
theorem key_ll (a b:Int):decide ((Sum.inl a:Key) = Sum.inl b) = (a == b):=by
 by_cases e:a = b
 .subst e; simp
 .have h:¬ (Sum.inl a:Key) = Sum.inl b:=λq=>e (Sum.inl.inj q);rw [Jb4 h];exact (Jdk.mpr e).symm
theorem key_rr (a b:Str):decide ((Sum.inr a:Key) = Sum.inr b) = decide (a = b):=by
 by_cases e:a = b
 .subst e; simp
 .have h:¬ (Sum.inr a:Key) = Sum.inr b:=λq=>e (Sum.inr.inj q);rw [Jb4 h,Jb4 e]
theorem key_lr (a:Int) (b:Str):decide ((Sum.inl a:Key) = Sum.inr b) = false:=Jb4 (λq=>nomatch q)
theorem key_rl (a:Str) (b:Int):decide ((Sum.inr a:Key) = Sum.inl b) = false:=Jb4 (λq=>nomatch q)
def Zqo (prog:Program) (w:World):PySem.KeyKind prog w Key where
 is:=keyIs
 hash:=keyH w
 inj:=λv a b ha hb=>by
  rcases Zbt ha with ⟨i,t,rfl,rfl⟩ | ⟨x,t,rfl,rfl⟩
  .rcases Zbt hb with ⟨j,u,rfl,e⟩ | ⟨y,u,rfl,e⟩
   .injection e with e1 _; rw [e1]
   .exact nomatch e
  .rcases Zbt hb with ⟨j,u,rfl,e⟩ | ⟨y,u,rfl,e⟩
   .exact nomatch e
   .injection e with e1 _; rw [e1]
 byValue:=λk v h=>by
  rcases Zbt h with ⟨i,t,rfl,rfl⟩ | ⟨x,t,rfl,rfl⟩ <;> rfl
 pyHash:=λhv h=>by
  rcases Zbt hv with ⟨i,t,rfl,rfl⟩ | ⟨x,t,rfl,rfl⟩
  .exact wpAny_pyHash_int h
  .exact wpAny_pyHash_str h
 eqBool:=λhu hv h=>by
  rcases Zbt hu with ⟨i,t,rfl,rfl⟩ | ⟨x,t,rfl,rfl⟩
  .rcases Zbt hv with ⟨j,u,rfl,rfl⟩ | ⟨y,u,rfl,rfl⟩
   .rw [key_ll] at h; exact wpAny_eqBool_int h
   .rw [key_lr] at h; exact SeqAt.EqAt.int_str i t y u _ _ _ _ h
  .rcases Zbt hv with ⟨j,u,rfl,rfl⟩ | ⟨y,u,rfl,rfl⟩
   .rw [key_rl] at h; exact SeqAt.EqAt.str_int x t j u _ _ _ _ h
   .rw [key_rr] at h; exact wpAny_eqBool_str h
 «strs»:=λk x t v h=>by
  rcases Zbt h with ⟨i,u,rfl,e⟩ | ⟨y,u,rfl,e⟩
  .exact nomatch e
  .injection e with e1 _
   subst e1;cases v <;> rfl
inductive V where
 | non | bl (b:Bool) | int (i:Int) | str (x:Str) | byt (b:Array UInt8) | flt (b:UInt64) | ref (a:Addr) | ty (n:String)
 deriving DecidableEq
def RelV:V->Value->Prop
 | .non,u=>u = Value.none
 | .bl b,u=>u = Value.bool b
 | .int i,u=>∃ t,u = Value.int i t
 | .str x,u=>∃ t,u = Value.str x t
 | .byt b,u=>∃ t,u = Value.bytes b t
 | .flt b,u=>∃ t,u = Value.float b t
 | .ref a,u=>u = Value.ref a
 | .ty n,u=>u = Value.type n
abbrev Vals:List V->List Value->Prop:=Paired RelV
theorem Vals.length {xs:List V} {us:List Value} (r:Vals xs us):xs.length = us.length:=Paired.length r
theorem Vals.get:∀ {xs:List V} {us:List Value} {i:Nat} {x:V},Vals xs us->xs[i]? = some x->∃ u,us[i]? = some u/\RelV x u
 | _,_,_,_,.nil,e=>by simp at e
 | _,_,0,_,.cons r _,e=>by simp at e; subst e; exact ⟨_,rfl,r⟩
 | _,_,i + 1,x,.cons _ t,e=>by
  obtain ⟨u,h1,h2⟩:=Vals.get (i:=i) (x:=x) t (by simpa using e);exact ⟨u,by simpa using h1,h2⟩
theorem Vals.set {x:V} {u:Value} (r:RelV x u):∀ {xs:List V} {us:List Value} (i:Nat),Vals xs us->Vals (xs.set i x) (us.set i u)
 | _,_,_,.nil=>.nil
 | _,_,0,.cons _ t=>.cons r t
 | _,_,i + 1,.cons q t=>.cons q (Vals.set r i t)
theorem Vals.append:∀ {xs ys:List V} {us ws:List Value},Vals xs us->Vals ys ws->Vals (xs ++ ys) (us ++ ws)
 | _,_,_,_,.nil,s=>s
 | _,_,_,_,.cons r t,s=>.cons r (Vals.append t s)
theorem Vals.take:∀ {xs:List V} {us:List Value} (n:Nat),Vals xs us->Vals (xs.take n) (us.take n)
 | _,_,0,_=>.nil
 | _,_,_ + 1,.nil=>.nil
 | _,_,n + 1,.cons r t=>.cons r (Vals.take n t)
theorem Vals.drop:∀ {xs:List V} {us:List Value} (n:Nat),Vals xs us->Vals (xs.drop n) (us.drop n)
 | _,_,0,r=>r
 | _,_,_ + 1,.nil=>.nil
 | _,_,n + 1,.cons _ t=>Vals.drop n t
def RelO:Option V->Option Value->Prop
 | some v,some u=>RelV v u
 | none,none=>True
 | _,_=>False
def KV {κ:Type}:List (κ × V)->List (κ × Value)->Prop:=Paired λ(p:κ × V) (q:κ × Value)=>p.1 = q.1/\RelV p.2 q.2
def kV:Key->V
 | .inl i=>.int i
 | .inr x=>.str x
inductive HO where
  | lst (xs:List V)
  | tup (xs:List V)
  | dK (kvs:List (Key × V)) | dT (kvs:List (List Key × V))
  | set (S:Int->Bool) (n:Nat)
  | ins (C dx:Addr) (fs:List (Str × V))
  | own (x:Addr)
  | xd (fs:List (Str × V))
  | met (f x:Addr)
  | rng (lo hi:Int)
  | frz (o:Obj) (u:HO)
  | tbl (ps:Array Value)
  | ext (φ:Heap->Prop)
  | tab (l c:Int) (q:Str)
abbrev Hp:=Addr->Option HO
def upd (H:Hp) (a:Addr) (o:HO):Hp:=λb=>if b = a then some o else H b
theorem Zab {H:Hp} {a:Addr} {o:HO}:upd H a o a = some o:=by unfold upd; rw [if_pos rfl]
theorem Zal {H:Hp} {a b:Addr} {o:HO} (h:b ≠ a):upd H a o b = H b:=by unfold upd; rw [if_neg h]
theorem Zqm {H:Hp} {a b:Addr} {o u:HO} (h:H a = some o) (h':H b = some u) (d:o ≠ u):a ≠ b:=by
 intro e; subst e; rw [h] at h'; exact d (Jbp h')
theorem Zaj {H:Hp} {a b:Addr} {o:HO} (h:H a = some o) (h':H b = none):a ≠ b:=by
 intro e; subst e; rw [h] at h'; cases h'
section
variable (P:Program) (w:World)
def ObjOk (H:Hp) (h:Heap) (a:Addr):HO->Prop
 | .lst xs=>xs.length<=sizeLine/\∃ (its:List Value) (n:Nat),Vals xs its/\h.get? a = some { cls:=.type "list",data:=.seq its.toArray n }
 | .tup xs=>xs.length<=sizeLine/\∃ its:List Value,Vals xs its/\IsTup h a its.toArray
 | .dK kvs=>kvs.length<=sizeLine/\(a == sysModules) = false/\∃ vs,KV kvs vs/\h.DictOf (Zqo P w) a vs
 | .dT kvs=>kvs.length<=sizeLine/\(a == sysModules) = false/\∃ xs:List (List Key × Addr × Value),
   Paired (λ(p:List Key × V) (q:List Key × Addr × Value)=>p.1 = q.1/\H q.2.1 = some (.tup (p.1.map kV))/\RelV p.2 q.2.2) kvs xs /\
   ∃ o es ep,h.get? a = some o/\o.ExactDict/\o.data = .dict es ep/\es.toList = xs.map (entryOfKey (tupleKind (Zqo P w)))/\(xs.map (·.1)).Nodup
 | .set S n=>h.SetOf (intKind P w) a S n
 | .ins C dx fs=>H dx = some (.own a)/\fs.length<=1000/\dx ≠ a/\h.get? a = some (PySem.W.instObj C dx) /\
   ∃ mA,h.Ns1 dx mA/\(∀ f,RelO (fs.lookup f) (mA f))/\PySem.Within mA (fs.map (·.1))
 | .own _=>∃ o,h.get? a = some o
 | .xd fs=>∃ mA,h.Ns1 a mA/\∀ f,RelO (fs.lookup f) (mA f)
 | .rng lo hi=>∃ t u v,h.get? a = some { cls:=.type "range",data:=.fields #[.int lo t,.int hi u,.int 1 v] }
 | .frz o u=>h.get? a = some o/\ObjOk H h a u
 | .tbl ps=>h.get? a = some { cls:=.none,data:=.fields ps }
 | .met f x=>h.get? a = some (PySem.W.methodObj (.ref f) (.ref x))
 | .ext φ=>φ h/\(∃ o,h.get? a = some o)/\∀ h1 h2:Heap,φ h1->(∀ o,h1.get? a = some o->h2.get? a = some o)->φ h2
 | .tab l c q=>h.get? a = some { cls:=.none,data:=.fields #[] }\/∃ c' oc vs t,h.get? a = some { cls:=.none,data:=.fields #[rawInt l,rawInt c,.ref c'] }/\c' ≠ a/\H c' = some (.frz oc (.own a))/\oc.data = .fields vs/\vs[1]? = some (.str q t)
def HOk (H:Hp) (h:Heap):Prop:=∀ a o,H a = some o->ObjOk P w H h a o
end
section
variable {P:Program} {w:World} {H H':Hp} {h h':Heap} {a:Addr} {o:HO}
theorem ObjOk.lt (x:ObjOk P w H h a o):a < h.objs.size:=by
 cases o with
 | lst xs=>obtain ⟨_,_,_,_,e⟩:=x; exact Jak e
 | tup xs=>obtain ⟨_,_,_,p⟩:=x; exact p.lt
 | dK kvs=>obtain ⟨_,_,_,_,o,_,_,e,_⟩:=x; exact Jak e
 | dT kvs=>obtain ⟨_,_,_,_,o,_,_,e,_⟩:=x; exact Jak e
 | set S n=>obtain ⟨o,_,_,_,e,_⟩:=x; exact Jak e
 | ins C dx fs=>obtain ⟨_,_,_,e,_⟩:=x; exact Jak e
 | own y=>obtain ⟨_,e⟩:=x; exact Jak e
 | xd fs=>obtain ⟨_,⟨_,_,_,e,_⟩,_⟩:=x; exact Jak e
 | rng lo hi=>obtain ⟨_,_,_,e⟩:=x; exact Jak e
 | frz ob u=>obtain ⟨e,_⟩:=x; exact Jak e
 | tbl ps=>exact Jak (show h.get? a = some _ from x)
 | met f y=>exact Jak (show h.get? a = some _ from x)
 | ext φ=>obtain ⟨_,⟨_,e⟩,_⟩:=x; exact Jak e
 | tab l c q=>
  rcases x with e | ⟨_,_,_,_,e,_⟩
  .exact Jak e
  .exact Jak e
theorem Paired.mapP {α β:Type} {F G:α->β->Prop}:∀ {l₁:List α} {l₂:List β},Paired F l₁ l₂->(∀ a b,F a b->G a b)->Paired G l₁ l₂
 | _,_,.nil,_=>.nil
 | _,_,.cons r t,f=>.cons (f _ _ r) (Paired.mapP t f)
theorem ObjOk.stay (x:ObjOk P w H h a o) (k:∀ b u,(b = a\/H b = some (.own a))->h.get? b = some u->h'.get? b = some u)
  (ho:∀ b,H b = some (.own a)->H' b = some (.own a)) (ht:∀ b xs,H b = some (.tup xs)->H' b = some (.tup xs)) (hz:∀ b o' u,H b = some (.frz o' u)->H' b = some (.frz o' u)):ObjOk P w H' h' a o:=by
 induction o with
 | lst xs=>obtain ⟨z,its,n,r,e⟩:=x; exact ⟨z,its,n,r,k _ _ (.inl rfl) e⟩
 | tup xs=>obtain ⟨z,its,r,ob,e,c⟩:=x; exact ⟨z,its,r,ob,k _ _ (.inl rfl) e,c⟩
 | dK kvs=>obtain ⟨z,y,vs,r,ob,es,ep,e,c⟩:=x; exact ⟨z,y,vs,r,ob,es,ep,k _ _ (.inl rfl) e,c⟩
 | dT kvs=>
  obtain ⟨z,y,xs,r,ob,es,ep,e,c⟩:=x;exact ⟨z,y,xs,Paired.mapP r λp q z=>⟨z.1,ht _ _ z.2.1,z.2.2⟩,ob,es,ep,k _ _ (.inl rfl) e,c⟩
 | set S n=>obtain ⟨ob,es,ep,t,e,c⟩:=x; exact ⟨ob,es,ep,t,k _ _ (.inl rfl) e,c⟩
 | ins C dx fs=>
  obtain ⟨d,z,ne,e,mA,⟨od,es,ep,e2,c⟩,r⟩:=x;exact ⟨ho _ d,z,ne,k _ _ (.inl rfl) e,mA,⟨od,es,ep,k _ _ (.inr d) e2,c⟩,r⟩
 | own y=>obtain ⟨ob,e⟩:=x; exact ⟨ob,k _ _ (.inl rfl) e⟩
 | xd fs=>obtain ⟨mA,⟨od,es,ep,e,c⟩,r⟩:=x; exact ⟨mA,⟨od,es,ep,k _ _ (.inl rfl) e,c⟩,r⟩
 | rng lo hi=>obtain ⟨t,u,v,e⟩:=x; exact ⟨t,u,v,k _ _ (.inl rfl) e⟩
 | frz ob u ih=>obtain ⟨e,q⟩:=x; exact ⟨k _ _ (.inl rfl) e,ih q⟩
 | tbl ps=>
  have e:h.get? a = some { cls:=.none,data:=.fields ps }:=x;show h'.get? a = some { cls:=.none,data:=.fields ps };exact k a _ (.inl rfl) e
 | met f y=>
  have e:h.get? a = some (PySem.W.methodObj (.ref f) (.ref y)):=x;show h'.get? a = some (PySem.W.methodObj (.ref f) (.ref y));exact k a _ (.inl rfl) e
 | ext φ=>obtain ⟨p,⟨o,e⟩,st⟩:=x; exact ⟨st _ _ p λo q=>k _ _ (.inl rfl) q,⟨o,k _ _ (.inl rfl) e⟩,st⟩
 | tab l c q=>
  rcases x with e | ⟨c',oc,vs,t,e,ne,e2,r⟩
  .exact .inl (k _ _ (.inl rfl) e)
  .exact .inr ⟨c',oc,vs,t,k _ _ (.inl rfl) e,ne,hz _ _ _ e2,r⟩
theorem HOk.lt (x:HOk P w H h) (e:H a = some o):a < h.objs.size:=(x a o e).lt
theorem HOk.fresh (x:HOk P w H h) (e:h.objs.size<=a):H a = none:=by
 cases q:H a with
 | none=>rfl
 | some u=>exact absurd (Ja0 (x.lt q) e) (Jbs _)
theorem HOk.kept (x:HOk P w H h) (k:∀ b u,h.get? b = some u->h'.get? b = some u):HOk P w H h':=λa o e=>
 (x a o e).stay (λb u _ q=>k b u q) (λ_ q=>q) (λ_ _ q=>q) λ_ _ _ q=>q
theorem HOk.laid (x:HOk P w H h) (k:∀ b u,h.get? b = some u->h'.get? b = some u) (hp:h.objs.size<=a) (new:ObjOk P w (upd H a o) h' a o):HOk P w (upd H a o) h':=λb u e=>by
 have hn:=x.fresh hp;by_cases hb:b = a
 .subst hb; rw [Zab] at e; cases e; exact new
 .rw [Zal hb] at e;exact (x b u e).stay (λc v _ q=>k c v q) (λc q=>by rw [Zal (Zaj q hn)]; exact q) (λc xs q=>by rw [Zal (Zaj q hn)]; exact q) λc _ _ q=>by rw [Zal (Zaj q hn)]; exact q
end
def Rd (H:Hp) (a:Addr) (u:HO):Prop:=H a = some u\/∃ o,H a = some (.frz o u)
theorem Rd.ok {P:Program} {w:World} {H:Hp} {h:Heap} {a:Addr} {u:HO} (r:Rd H a u) (x:HOk P w H h):ObjOk P w H h a u:=by
 rcases r with r | ⟨o,r⟩
 .exact x a u r
 .obtain ⟨_,q⟩:=x a _ r;exact q
def Mut:Option HO->Prop
 | some (.lst _)=>True
 | some (.dK _)=>True
 | some (.dT _)=>True
 | some (.set _ _)=>True
 | some (.ins _ _ _)=>True
 | some (.ext _)=>True
 | some (.tab _ _ _)=>True
 | _=>False
section
variable {P:Program} {w:World} {H:Hp} {h h':Heap} {x e:Addr} {o':HO}
theorem HOk.write (ok:HOk P w H h) (mu:Mut (H x)) (he:e = x\/H e = some (.own x)) (k:∀ b u,b ≠ e->h.get? b = some u->h'.get? b = some u) (heo:∃ u,h'.get? e = some u)
  (new:ObjOk P w (upd H x o') h' x o'):HOk P w (upd H x o') h':=λb u q=>by
 have nown:∀ c y,H c = some (.own y)->c ≠ x:=λc y r z=>by subst z; rw [r] at mu; exact mu
 have ntup:∀ c xs,H c = some (.tup xs)->c ≠ x:=λc xs r z=>by subst z; rw [r] at mu; exact mu
 have nfrz:∀ c o' u',H c = some (.frz o' u')->c ≠ x:=λc o' u' r z=>by subst z; rw [r] at mu; exact mu
 by_cases hb:b = x
 .subst hb; rw [Zab] at q; cases q; exact new
 .rw [Zal hb] at q;by_cases hbe:b = e
  .have q':H b = some (.own x):=by
    rcases he with z | z
    .exact absurd (hbe.trans z) hb
    .rw [hbe]; exact z
   rw [q] at q'; cases q';obtain ⟨v,hv⟩:=heo;exact ⟨v,by rw [hbe]; exact hv⟩
  .refine (ok b u q).stay (λc v hc r=>k c v ?_ r) (λc r=>by rw [Zal (nown c b r)]; exact r) (λc xs r=>by rw [Zal (ntup c xs r)]; exact r) λc o' u' r=>by rw [Zal (nfrz c o' u' r)]; exact r
   rcases hc with rfl | hc
   .exact hbe
   .rintro rfl;rcases he with z | z
    .exact nown c b hc z
    .rw [hc] at z; cases z; exact hb rfl
end
structure Un (fs ex:List Addr) (H H':Hp) (h h':Heap):Prop where
 keep:∀ b o,h.get? b = some o->H b = none->b ∉ fs->b ∉ ex->h'.get? b = some o
 slot:∀ b o,h.get? b = some o->H b = none->b ∈ fs->b ∉ ex->∃ sl,h'.get? b = some { o with slots:=sl }
 free:∀ b o,h.get? b = some o->H b = none->b ∉ ex->H' b = none
 there:∀ b o,h.get? b = some o->b ∉ ex->∃ o',h'.get? b = some o'
 tups:∀ b xs,H b = some (.tup xs)->H' b = some (.tup xs)
 frzs:∀ b o u,H b = some (.frz o u)->H' b = some (.frz o u)
 tbls:∀ b ps,H b = some (.tbl ps)->∃ more,H' b = some (.tbl (ps ++ more))
section
variable {fs fs' ex ex':List Addr} {H H1 H2:Hp} {h h1 h2 h':Heap} {a x e:Addr} {o:HO}
theorem Un.any (u:Un fs ex H H1 h h1) {b:Addr} {ob:Obj} (q:h.get? b = some ob) (n:H b = none) (hx:b ∉ ex):∃ sl,h1.get? b = some { ob with slots:=sl }:=by
 by_cases hb:b ∈ fs
 .exact u.slot b ob q n hb hx
 .exact ⟨ob.slots,u.keep b ob q n hb hx⟩
theorem Un.kept (k:∀ b u,h.get? b = some u->h'.get? b = some u):Un fs ex H H h h':=
 ⟨λb ob q _ _ _=>k b ob q,λb ob q _ _ _=>⟨ob.slots,k b ob q⟩,λ_ _ _ n _=>n,λb ob q _=>⟨ob,k b ob q⟩,λ_ _ q=>q,λ_ _ _ q=>q,λ_ ps q=>⟨#[],by rw [q]; simp⟩⟩
theorem Un.refl:Un fs ex H H h h:=Un.kept λ_ _ q=>q
theorem Un.laid (k:∀ b u,h.get? b = some u->h'.get? b = some u) (hp:h.objs.size<=a) (hn:H a = none):Un fs ex H (upd H a o) h h' where
 keep:=λb u q _ _ _=>k b u q
 slot:=λb u q _ _ _=>⟨u.slots,k b u q⟩
 free:=λb u q n _=>by rw [Zal (Ja6 (Ja0 (Jak q) hp))]; exact n
 there:=λb u q _=>⟨u,k b u q⟩
 tups:=λb xs q=>by rw [Zal (Zaj q hn)]; exact q
 frzs:=λb u xs q=>by rw [Zal (Zaj q hn)]; exact q
 tbls:=λb ps q=>⟨#[],by rw [Zal (Zaj q hn),q]; simp⟩
theorem Un.write (mu:Mut (H x)) (he:e = x\/H e = some (.own x)) (k:∀ b u,b ≠ e->h.get? b = some u->h'.get? b = some u) (heo:∃ u,h'.get? e = some u):Un fs ex H (upd H x o) h h':=by
 have hx:∀ b,H b = none->b ≠ x:=λb n z=>by subst z; rw [n] at mu; exact mu
 have hb:∀ b,H b = none->b ≠ e:=λb n z=>by
  subst z;rcases he with r | r
  .exact hx b n r
  .rw [n] at r; cases r
 have hm:∀ b u,H b = some u->¬ Mut (some u)->b ≠ x:=λb u q nm z=>by subst z; rw [q] at mu; exact nm mu
 refine ⟨λb u q n _ _=>k b u (hb b n) q,λb u q n _ _=>⟨u.slots,k b u (hb b n) q⟩,λb u q n _=>by rw [Zal (hx b n)]; exact n,λb u q _=>?_,
  λb xs q=>by rw [Zal (hm b _ q λz=>z)]; exact q,λb u xs q=>by rw [Zal (hm b _ q λz=>z)]; exact q,λb ps q=>⟨#[],by rw [Zal (hm b _ q λz=>z),q]; simp⟩⟩
 by_cases hbe:b = e
 .subst hbe; exact heo
 .exact ⟨u,k b u hbe q⟩
end
noncomputable def trk (h:Heap) (H:Hp):List Addr:=(List.range h.objs.size).filter λa=>(H a).isSome
def Zr7 (h:Heap) (H:Hp):Heap:=PySem.W.hideAll h (trk h H)
theorem Zrc (h:Heap) (H:Hp):(Zr7 h H).objs.size = h.objs.size:=PySem.W.hideAll_size _ _
theorem Ztu {h:Heap} {H:Hp} {b:Addr} {o:Obj} (e:h.get? b = some o) (n:H b = none):(Zr7 h H).get? b = some o:=
 PySem.W.hideAll_get _ e λhm=>by
  have q:(H b).isSome = true:=(Jdb.mp hm).2;rw [n] at q; simp at q
theorem of_hidT {h:Heap} {H:Hp} {b:Addr} {o:Obj} (e:(Zr7 h H).get? b = some o):h.get? b = some o/\H b = none:=by
 have e':h.get? b = some o:=PySem.W.of_hideAll (trk h H) e;refine ⟨e',?_⟩;cases q:H b with
 | none=>rfl
 | some x=>
  have hm:b ∈ trk h H:=Jdb.mpr ⟨Ja4.mpr (Jak e'),by simp [q]⟩;have z:(Zr7 h H).get? b = none:=PySem.W.hideAll_none (trk h H) hm;rw [z] at e; cases e
noncomputable def allNews (g h:Heap) (L:Addr):List (Addr × Obj):=(List.range h.objs.size).filterMap λa=>if a = L\/(g.get? a).isSome = true then none else (h.get? a).map λo=>(a,o)
noncomputable def rest (g h:Heap) (L d:Addr):List (Addr × Obj):=(allNews g h L).filter λp=>decide (p.1 ≠ d)
structure Mod (K:PySem.W.Frag) (mg:Str->Option Value) (base:Heap):Prop where
 kin:K.In base
 glob:base.Ns mainGlobals mg
 blt:∃ mb,base.Ns builtinsNs mb/\∀ x:Str,x ≠ "__name__" -> mb x = bootBuiltins x
 nolimit:base.NoLimit
 seer:base.NoSeer
 bmain:∃ bm ob,mg "__builtins__" = some (.ref bm)/\bm ≠ builtinsNs/\base.get? bm = some ob/\ob.cls = .type "module" /\ ob.dict = some builtinsNs/\ob.data = .plain
def Seen (l:List Env):Prop:=∃ e r,l = e :: r/\e.scope.isGenerator = false/\e.scope.isCoroutine = false/\e.builtins = builtinsNs/\e.globals = mainGlobals
structure Cx where
 prog:Program
 w:World
 K:PySem.W.Frag
 mg:Str->Option Value
 base:Heap
 A:Around
 N:List Str
 s₀:Shared
 H₀:Hp
 env:Env
 outer:List Env
 stack:List Env
 ex:List Addr
 fn:Str->Bool
 calm:Bool
 pn:List (Addr × Obj)
 xe:Value->Shared->Prop
noncomputable def frs (l:List Env):List Addr:=l.filterMap (·.frame)
abbrev Cx.fs (X:Cx):List Addr:=frs X.outer
def Vis (sc:Scope) (x:Str):Prop:=sc.names.lookup x = some .local\/sc.names.lookup x = some .cell\/sc.names.lookup x = some .free
def Loc (sc:Scope) (x:Str):Prop:=sc.names.lookup x = some .local\/sc.names.lookup x = some .cell
def Look (env:Env) (h:Heap) (m:Str->Option Value) (x:Str) (u:Value):Prop:=
 (env.kindOf x = some .local/\m x = some u)\/((env.kindOf x = some .cell\/env.kindOf x = some .free)/\∃ c,env.cells.lookup x = some c/\h.IsCell c (some u))
structure Cx.Ok (X:Cx):Prop where
 mod:Mod X.K X.mg X.base
 kind:X.env.scope.kind = .function
 glob:X.env.globals = mainGlobals
 blt:X.env.builtins = builtinsNs
 above:X.s₀.heap.objs.size<=X.env.locals
 inj:∀ x y c,X.env.cells.lookup x = some c->X.env.cells.lookup y = some c->x = y
 has:∀ x,(X.env.kindOf x = some .cell\/X.env.kindOf x = some .free)->∃ c,X.env.cells.lookup x = some c
 cab:∀ x c,X.fn x = true->X.env.cells.lookup x = some c->X.s₀.heap.objs.size<=c
 hd:X.calm = true->X.A.handled = none
 frames:X.A.frames = some X.stack
 stk:X.stack = X.outer\/(X.stack = X.env :: X.outer/\X.env.frame = some X.env.locals)
 exf:∀ b ∈ X.ex,b ≠ X.env.locals/\∀ x c,X.env.cells.lookup x = some c->c ≠ b
 bs:∀ b o,X.base.get? b = some o->X.s₀.heap.get? b = some o/\X.H₀ b = none
 bsz:X.base.objs.size<=X.s₀.heap.objs.size
 noex:∀ b o,X.base.get? b = some o->b ∉ X.ex
 exfs:∀ b ∈ X.ex,b ∉ X.fs
 funs:X.s₀.heap.FunFrames X.base X.outer
 frf:∀ b ∈ X.fs,X.H₀ b = none
 top:Seen X.stack
structure Inv (X:Cx) (pins:List (Addr × Obj)) (σ:List (Option V)) (H:Hp) (s:Shared):Prop where
 ok:X.Ok
 os:s.os = X.s₀.os
 bare:AllBare s.gens
 base:Un X.fs X.ex X.H₀ H X.s₀.heap s.heap
 loc:∃ m,s.heap.Ns X.env.locals m/\∀ (i:Nat) (x:Str) (v:V),X.N[i]? = some x->σ[i]? = some (some v)->Vis X.env.scope x->∃ u,RelV v u/\Look X.env s.heap m x u
 cell:∀ x c,X.env.cells.lookup x = some c->∃ v,s.heap.IsCell c v
 free:H X.env.locals = none
 freeC:∀ x c,X.env.cells.lookup x = some c->H c = none
 pin:∀ p ∈ X.pn ++ pins,s.heap.get? p.1 = some p.2/\H p.1 = none/\p.1 ≠ X.env.locals/\p.1 ∉ X.fs/\∀ v,p.2.data ≠ .cell v
 hok:HOk X.prog X.w H s.heap
 len:σ.length = X.N.length
section
variable {X:Cx} {pins:List (Addr × Obj)} {σ:List (Option V)} {H H':Hp} {s:Shared} {h':Heap}
theorem Cx.Ok.nofr (ok:X.Ok) {b:Addr} {o:Obj} (e:X.base.get? b = some o):b ∉ X.fs:=λhb=>by
 have:=(ok.funs.mem hb).1;rw [e] at this; cases this
theorem Inv.bs (I:Inv X pins σ H s):∀ b o,X.base.get? b = some o->s.heap.get? b = some o/\H b = none:=λb o e=>
 ⟨I.base.keep b o (I.ok.bs b o e).1 (I.ok.bs b o e).2 (I.ok.nofr e) (I.ok.noex b o e),I.base.free b o (I.ok.bs b o e).1 (I.ok.bs b o e).2 (I.ok.noex b o e)⟩
theorem Inv.bk (I:Inv X pins σ H s):∀ b o,X.base.get? b = some o->s.heap.get? b = some o:=λb o e=>(I.bs b o e).1
theorem Inv.mod (I:Inv X pins σ H s):Mod X.K X.mg X.base:=I.ok.mod
theorem Inv.kIn (I:Inv X pins σ H s):X.K.In s.heap:=I.ok.mod.kin.keeps I.bk
theorem Inv.nolimit (I:Inv X pins σ H s):s.heap.NoLimit:=I.ok.mod.nolimit.keeps I.bk
theorem Inv.long (I:Inv X pins σ H s) (ht:X.prog.given.tree = none) (hd:X.A.depth + Builtin.pylongFrames < recursionLimit):PySem.PylongRoom (model X.prog X.w) X.A s:=by
 obtain ⟨e,r,hs,h1,h2,h3,h4⟩:=I.ok.top;exact PySem.PylongRoom.of I.nolimit hd (PySem.SeerAt.of (I.ok.mod.seer.keeps I.bk) ht (by rw [I.ok.frames,hs]) h1 h2 h3 h4)
theorem Inv.lt (I:Inv X pins σ H s):X.env.locals < s.heap.objs.size:=let ⟨_,hn,_⟩:=I.loc; hn.lt
theorem Inv.sz (I:Inv X pins σ H s):X.s₀.heap.objs.size<=s.heap.objs.size:=Jat I.ok.above (Jcd I.lt)
theorem Inv.nofs (I:Inv X pins σ H s) {a:Addr} (h:s.heap.objs.size<=a):a ∉ X.fs:=λhb=>by
 obtain ⟨_,o,ho,_⟩:=I.ok.funs.mem hb;exact absurd (Ja0 (Jak ho) (Jat I.sz h)) (Jbs _)
theorem Inv.cne (I:Inv X pins σ H s):∀ x c,X.env.cells.lookup x = some c->c ≠ X.env.locals:=λx c e z=>by
 obtain ⟨v,o,ho,hd⟩:=I.cell x c e;obtain ⟨m,⟨o',es,ep,ho',hd',_⟩,_⟩:=I.loc;rw [z,ho'] at ho; cases ho; rw [hd'] at hd; cases hd
theorem Inv.funs (I:Inv X pins σ H s):s.heap.FunFrames X.base X.outer:=by
 have all:∀ (l:List Env),(∀ b ∈ frs l,b ∈ X.fs)->X.s₀.heap.FunFrames X.base l->s.heap.FunFrames X.base l:=by
  intro l
  induction l with
  | nil=>intro _ _; trivial
  | cons env r ih=>
   intro hs hl;obtain ⟨hk,⟨L,o,hf,hn,ho,hd⟩,hr⟩:=hl;have hL:L ∈ X.fs:=hs L (by unfold frs; rw [Jeq,hf]; exact Jc6);obtain ⟨sl,e⟩:=I.base.slot L o ho (I.ok.frf L hL) hL λz=>I.ok.exfs L z hL;exact ⟨hk,⟨L,_,hf,hn,e,hd⟩,ih (λb hb=>hs b (by unfold frs; rw [Jeq,hf]; exact Jcc _ hb)) hr⟩
 exact all X.outer (λ_ hb=>hb) I.ok.funs
theorem Inv.stack (I:Inv X pins σ H s):s.heap.FunFrames X.base X.stack:=by
 rcases I.ok.stk with e | ⟨e,hf⟩
 .rw [e]; exact I.funs
 .rw [e];obtain ⟨m,hn,_⟩:=I.loc;refine .cons (by rw [I.ok.kind]; decide) hf hn ?_ I.funs;exact Heap.get?_none_of_le (Jat I.ok.bsz I.ok.above)
theorem Inv.stkSub (I:Inv X pins σ H s):∀ b ∈ frs X.stack,b ∈ X.env.locals :: X.fs:=λb hb=>by
 rcases I.ok.stk with e | ⟨e,hf⟩
 .rw [e] at hb; exact Jcc _ hb
 .rw [e] at hb;unfold frs at hb;rw [Jeq,hf] at hb;exact hb
theorem Inv.stkFree (I:Inv X pins σ H s):∀ b ∈ frs X.stack,H b = none:=λb hb=>by
 rcases Jb8.mp (I.stkSub b hb) with e | hb
 .rw [e]; exact I.free
 .obtain ⟨_,o,ho,_⟩:=I.ok.funs.mem hb;exact I.base.free b o ho (I.ok.frf b hb) λz=>I.ok.exfs b z hb
theorem Inv.step {g':Array GenState} {t':Nat} {d':Drawn} {ch:List Addr} (I:Inv X pins σ H s)
  (hch:∀ b ∈ ch,(b ∈ X.ex\/X.s₀.heap.objs.size<=b)/\b ≠ X.env.locals/\(∀ x c,X.env.cells.lookup x = some c->c ≠ b)/\∀ p ∈ X.pn ++ pins,p.1 ≠ b)
  (keep:∀ b o,b ≠ X.env.locals->b ∉ X.fs->b ∉ ch->s.heap.get? b = some o->H b = none->h'.get? b = some o)
  (slot:∀ b o,b ≠ X.env.locals->b ∈ X.fs->b ∉ ch->s.heap.get? b = some o->H b = none->∃ sl,h'.get? b = some { o with slots:=sl }) (free:∀ b o,b ∉ ch->s.heap.get? b = some o->H b = none->H' b = none)
  (there:∀ b o,b ∉ ch->s.heap.get? b = some o->∃ o',h'.get? b = some o')
  (tups:∀ b xs,H b = some (.tup xs)->H' b = some (.tup xs)) (frzs:∀ b o u,H b = some (.frz o u)->H' b = some (.frz o u)) (tbls:∀ b ps,H b = some (.tbl ps)->∃ more,H' b = some (.tbl (ps ++ more)))
  (ns:∀ m,s.heap.Ns X.env.locals m->h'.Ns X.env.locals m) (hok:HOk X.prog X.w H' h') (hg:AllBare g'):
  Inv X pins σ H' { s with heap:=h',gens:=g',drawn:=d',toks:=t' }:=by
 have neL:∀ b o,X.s₀.heap.get? b = some o->b ≠ X.env.locals:=λb o e=>Ja6 (Ja0 (Jak e) I.ok.above);have neC:∀ b o,X.s₀.heap.get? b = some o->b ∉ X.ex->b ∉ ch:=λb o e hx hb=>by
  rcases (hch b hb).1 with z | z
  .exact hx z
  .exact absurd (Ja0 (Jak e) z) (Jbs _)
 have cellK:∀ x c,X.env.cells.lookup x = some c->∀ v,s.heap.IsCell c v->h'.IsCell c v:=λx c e v ⟨o,ho,hd⟩=>by
  have nch:c ∉ ch:=λz=>(hch c z).2.2.1 x c e rfl;by_cases hc:c ∈ X.fs
  .obtain ⟨sl,q⟩:=slot c o (I.cne x c e) hc nch ho (I.freeC x c e);exact ⟨_,q,hd⟩
  .exact ⟨o,keep c o (I.cne x c e) hc nch ho (I.freeC x c e),hd⟩
 refine ⟨I.ok,I.os,hg,⟨λb o e n hb hx=>?_,λb o e n hb hx=>?_,λb o e n hx=>?_,λb o e hx=>?_,λb xs e=>tups b xs (I.base.tups b xs e),λb o xs e=>frzs b o xs (I.base.frzs b o xs e),λb ps e=>?_⟩,?_,λx c e=>?_,?_,λx c e=>?_,λp hp=>?_,hok,I.len⟩
 .exact keep b o (neL b o e) hb (neC b o e hx) (I.base.keep b o e n hb hx) (I.base.free b o e n hx)
 .obtain ⟨sl,e1⟩:=I.base.slot b o e n hb hx;obtain ⟨sl',e2⟩:=slot b _ (neL b o e) hb (neC b o e hx) e1 (I.base.free b o e n hx);exact ⟨sl',e2⟩
 .obtain ⟨o',e1⟩:=I.base.there b o e hx;exact free b o' (neC b o e hx) e1 (I.base.free b o e n hx)
 .obtain ⟨o',e1⟩:=I.base.there b o e hx;exact there b o' (neC b o e hx) e1
 .obtain ⟨m1,e1⟩:=I.base.tbls b ps e;obtain ⟨m2,e2⟩:=tbls b _ e1;exact ⟨m1 ++ m2,by rw [e2,Array.append_assoc]⟩
 .obtain ⟨m,hn,hl⟩:=I.loc;refine ⟨m,ns m hn,λi x v e1 e2 e3=>?_⟩;obtain ⟨u,r,l⟩:=hl i x v e1 e2 e3;refine ⟨u,r,?_⟩;rcases l with l | ⟨k,c,e,z⟩
  .exact .inl l
  .exact .inr ⟨k,c,e,cellK x c e _ z⟩
 .obtain ⟨v,z⟩:=I.cell x c e;exact ⟨v,cellK x c e v z⟩
 .obtain ⟨m,⟨o,_,_,ho,_⟩,_⟩:=I.loc;exact free _ o (λz=>(hch _ z).2.1 rfl) ho I.free
 .obtain ⟨v,o,ho,hd⟩:=I.cell x c e;exact free c o (λz=>(hch c z).2.2.1 x c e rfl) ho (I.freeC x c e)
 .obtain ⟨e,n,ne,nf,d⟩:=I.pin p hp;have nch:p.1 ∉ ch:=λz=>(hch p.1 z).2.2.2 p hp rfl;exact ⟨keep p.1 p.2 ne nf nch e n,free p.1 p.2 nch e n,ne,nf,d⟩
theorem Inv.un {t':Nat} (I:Inv X pins σ H s) (u:Un X.fs [] H H' s.heap h') (hok:HOk X.prog X.w H' h'):Inv X pins σ H' { s with heap:=h',toks:=t' }:=by
 obtain ⟨m,⟨o,es,ep,ho,r⟩,_⟩:=id I.loc;obtain ⟨sl,hL⟩:=u.any ho I.free (by simp);exact I.step (g':=s.gens) (d':=s.drawn) (ch:=[]) (λ_ z=>nomatch z) (λb o _ hb _ e n=>u.keep b o e n hb (by simp)) (λb o _ hb _ e n=>u.slot b o e n hb (by simp)) (λb o _ e n=>u.free b o e n (by simp)) (λb o _ e=>u.there b o e (by simp)) u.tups u.frzs u.tbls (λm' hm=>by
  obtain ⟨o',es',ep',ho',r'⟩:=hm;rw [ho] at ho'; cases ho';exact ⟨_,es',ep',hL,r'⟩) hok I.bare
theorem Inv.call {g':Array GenState} {t':Nat} {d':Drawn} {ch:List Addr} (I:Inv X pins σ H s) (u:Un (frs X.stack) ch H H' s.heap h') (hok:HOk X.prog X.w H' h') (hg:AllBare g')
  (hch:∀ b ∈ ch,(b ∈ X.ex\/X.s₀.heap.objs.size<=b)/\b ≠ X.env.locals/\(∀ x c,X.env.cells.lookup x = some c->c ≠ b)/\∀ p ∈ X.pn ++ pins,p.1 ≠ b):
  Inv X pins σ H' { s with heap:=h',gens:=g',drawn:=d',toks:=t' }:=by
 obtain ⟨m,⟨o,es,ep,ho,r⟩,_⟩:=id I.loc;obtain ⟨sl,hL⟩:=u.any ho I.free λz=>(hch _ z).2.1 rfl;exact I.step (ch:=ch) hch (λb o hL hb hc e n=>u.keep b o e n (λz=>(Jb8.mp (I.stkSub b z)).elim hL hb) hc) (λb o _ _ hc e n=>u.any e n hc) (λb o hc e n=>u.free b o e n hc) (λb o hc e=>u.there b o e hc) u.tups u.frzs u.tbls (λm' hm=>by
  obtain ⟨o',es',ep',ho',r'⟩:=hm;rw [ho] at ho'; cases ho';exact ⟨_,es',ep',hL,r'⟩) hok hg
theorem Inv.turned {t':Nat} {it:Addr} (I:Inv X pins σ H s) (k:∀ b o,b ≠ it->s.heap.get? b = some o->h'.get? b = some o) (hn:H it = none) (hL:it ≠ X.env.locals)
  (h1:it ∈ X.ex\/X.s₀.heap.objs.size<=it) (h2:∀ x c,X.env.cells.lookup x = some c->c ≠ it) (h3:∀ p ∈ X.pn ++ pins,p.1 ≠ it):Inv X pins σ H { s with heap:=h',toks:=t' }:=by
 have nit:∀ b u,H b = some u->b ≠ it:=λb u e z=>by rw [z,hn] at e; cases e
 refine I.step (g':=s.gens) (d':=s.drawn) (ch:=[it]) (λb hb=>?_) (λb o _ _ hc e _=>k b o (λz=>hc (by simp [z])) e) (λb o _ _ hc e _=>⟨o.slots,k b o (λz=>hc (by simp [z])) e⟩) (λ_ _ _ _ n=>n)
  (λb o hc e=>⟨o,k b o (λz=>hc (by simp [z])) e⟩) (λ_ _ e=>e) (λ_ _ _ e=>e) (λb ps e=>⟨#[],by rw [e]; simp⟩) (λm hm=>?_) (λb u e=>?_) I.bare
 .have e:b = it:=by simpa using hb
  subst e;exact ⟨h1,hL,h2,h3⟩
 .obtain ⟨o,es,ep,ho,r⟩:=hm;exact ⟨o,es,ep,k _ o (Jcg hL) ho,r⟩
 .refine (I.hok b u e).stay (λc v hc q=>k c v ?_ q) (λ_ q=>q) (λ_ _ q=>q) λ_ _ _ q=>q;rcases hc with z | z
  .rw [z]; exact nit b u e
  .exact nit c _ z
theorem Inv.tok (I:Inv X pins σ H s) (t:Nat):Inv X pins σ H { s with toks:=t }:=I.un (h':=s.heap) (t':=t) Un.refl I.hok
theorem Inv.kept {t':Nat} (I:Inv X pins σ H s) (k:∀ b u,s.heap.get? b = some u->h'.get? b = some u):Inv X pins σ H { s with heap:=h',toks:=t' }:=I.un (Un.kept k) (I.hok.kept k)
theorem Inv.laid {a:Addr} {o:HO} {t':Nat} (I:Inv X pins σ H s) (k:∀ b u,s.heap.get? b = some u->h'.get? b = some u) (hp:s.heap.objs.size<=a) (new:ObjOk X.prog X.w (upd H a o) h' a o):
  Inv X pins σ (upd H a o) { s with heap:=h',toks:=t' }:=I.un (Un.laid k hp (I.hok.fresh hp)) (I.hok.laid k hp new)
theorem Inv.write {x e:Addr} {o:HO} {t':Nat} (I:Inv X pins σ H s) (mu:Mut (H x)) (he:e = x\/H e = some (.own x)) (k:∀ b u,b ≠ e->s.heap.get? b = some u->h'.get? b = some u) (heo:∃ u,h'.get? e = some u)
  (new:ObjOk X.prog X.w (upd H x o) h' x o):Inv X pins σ (upd H x o) { s with heap:=h',toks:=t' }:=I.un (Un.write mu he k heo) (I.hok.write mu he k heo new)
theorem Inv.pins_of {pins':List (Addr × Obj)} (I:Inv X pins σ H s) (h:∀ p ∈ pins',s.heap.get? p.1 = some p.2/\H p.1 = none/\p.1 ≠ X.env.locals/\p.1 ∉ X.fs/\∀ v,p.2.data ≠ .cell v):Inv X pins' σ H s:=
 ⟨I.ok,I.os,I.bare,I.base,I.loc,I.cell,I.free,I.freeC,λp hp=>(Jal.mp hp).elim (λz=>I.pin p (List.mem_append_left _ z)) (h p),I.hok,I.len⟩
theorem Znp {N:List Str} (hN:N.Nodup) {i j:Nat} {x:Str} (a:N[i]? = some x) (b:N[j]? = some x):i = j:=by
 obtain ⟨h1,e1⟩:=Jah.mp a;obtain ⟨h2,e2⟩:=Jah.mp b;exact (List.getElem_inj hN).mp (e1.trans e2.symm)
theorem Zkw {M:Model} {A:Around} {E:Value->Shared->Prop} {i:Nat} {x:Str} {v:V} {u:Value} {Q:Unit->Shared->Prop} (I:Inv X pins σ H s) (hN:X.N.Nodup) (hi:X.N[i]? = some x) (hx:Loc X.env.scope x) (r:RelV v u)
  (h:∀ s',Inv X pins (σ.set i (some v)) H s'->(∃ a,Heap.SameBut a s.heap s'.heap/\(a = X.env.locals\/X.env.cells.lookup x = some a))->Q () s') (hf:X.fn x = true\/X.env.scope.names.lookup x = some .local:=by first | exact .inl rfl | exact .inr rfl | assumption):wpAny M A (storeName X.env x u) Q E s:=by
 obtain ⟨m,hn,hl⟩:=id I.loc;have hcls:(X.env.scope.kind == .class || (X.env.scope.kind == .module && X.env.locals != X.env.globals)) = false:=by rw [I.ok.kind]; rfl
 have hiσ:i < σ.length:=by rw [I.len]; exact (Jah.mp hi).1
 have cne:=I.cne;have tracked:∀ {a:Addr} {h':Heap},(∃ o,s.heap.get? a = some o/\H a = none)->Heap.SameBut a s.heap h'->HOk X.prog X.w H h':=λ{a h'} ha hs b ob e=>by
  obtain ⟨_,_,hfree⟩:=ha;refine (I.hok b ob e).stay (λc w' hc q=>(hs.2 c ?_).trans q) (λ_ q=>q) (λ_ _ q=>q) λ_ _ _ q=>q;rintro rfl;rcases hc with rfl | hc
  .rw [hfree] at e; cases e
  .rw [hfree] at hc; cases hc
 rcases hx with hk | hk
 .refine wpAny_storeName_local hk hn (λh' hn' hs=>?_) hcls;obtain ⟨oL,_,_,hoL,_⟩:=id hn;refine h _ ⟨I.ok,I.os,I.bare,⟨λb o e n hb hx=>?_,λb o e n hb hx=>?_,I.base.free,λb o e hx=>?_,I.base.tups,I.base.frzs,I.base.tbls⟩,⟨_,hn',λj y v' e1 e2 e3=>?_⟩,λy c e=>?_,I.free,I.freeC,λp hp=>?_,tracked ⟨oL,hoL,I.free⟩ hs,by simpa using I.len⟩ ⟨_,hs,.inl rfl⟩
  .exact (hs.2 b (Ja6 (Ja0 (Jak e) I.ok.above))).trans (I.base.keep b o e n hb hx)
  .obtain ⟨sl,e1⟩:=I.base.slot b o e n hb hx;exact ⟨sl,(hs.2 b (Ja6 (Ja0 (Jak e) I.ok.above))).trans e1⟩
  .obtain ⟨o',e1⟩:=I.base.there b o e hx;exact ⟨o',(hs.2 b (Ja6 (Ja0 (Jak e) I.ok.above))).trans e1⟩
  .by_cases hj:j = i
   .subst hj;rw [hi] at e1; cases e1;rw [List.getElem?_set_self hiσ] at e2;cases e2;exact ⟨u,r,.inl ⟨hk,by simp⟩⟩
   .rw [List.getElem?_set_ne (Jcg hj)] at e2;obtain ⟨u',r',q⟩:=hl j y v' e1 e2 e3;refine ⟨u',r',?_⟩;rcases q with ⟨k,e⟩ | ⟨k,c,e,z⟩
    .refine .inl ⟨k,?_⟩;have:y ≠ x:=λe=>hj (Znp hN e1 (e ▸ hi));simp [this,e]
    .exact .inr ⟨k,c,e,z.sameBut hs (cne y c e)⟩
  .obtain ⟨w',z⟩:=I.cell y c e;exact ⟨w',z.sameBut hs (cne y c e)⟩
  .obtain ⟨e,n,ne,nf,d⟩:=I.pin p hp;exact ⟨(hs.2 p.1 ne).trans e,n,ne,nf,d⟩
 .have hfn:X.fn x = true:=by
   rcases hf with z | z
   .exact z
   .rw [z] at hk; cases hk
  obtain ⟨c,hc⟩:=I.ok.has x (.inl hk);obtain ⟨w',z⟩:=I.cell x c hc;refine wpAny_storeName_cell I.ok.kind hk hc z (λh' hc' hs=>?_);obtain ⟨oc,hoc,hocd⟩:=id z;refine h { s with heap:=h' } ⟨I.ok,I.os,I.bare,⟨λb o e n hb hx=>?_,λb o e n hb hx=>?_,I.base.free,λb o e hx=>?_,I.base.tups,I.base.frzs,I.base.tbls⟩,⟨m,hn.sameBut hs (Jcg (cne x c hc)),λj y v' e1 e2 e3=>?_⟩,λy c' e=>?_,I.free,I.freeC,λp hp=>?_,tracked ⟨oc,hoc,I.freeC x c hc⟩ hs,by simpa using I.len⟩ ⟨c,hs,.inr hc⟩
  .exact (hs.2 b (Ja6 (Ja0 (Jak e) (I.ok.cab x c hfn hc)))).trans (I.base.keep b o e n hb hx)
  .obtain ⟨sl,e1⟩:=I.base.slot b o e n hb hx;exact ⟨sl,(hs.2 b (Ja6 (Ja0 (Jak e) (I.ok.cab x c hfn hc)))).trans e1⟩
  .obtain ⟨o',e1⟩:=I.base.there b o e hx;exact ⟨o',(hs.2 b (Ja6 (Ja0 (Jak e) (I.ok.cab x c hfn hc)))).trans e1⟩
  .by_cases hj:j = i
   .subst hj;rw [hi] at e1; cases e1;rw [List.getElem?_set_self hiσ] at e2;cases e2;exact ⟨u,r,.inr ⟨.inl hk,c,hc,hc'⟩⟩
   .rw [List.getElem?_set_ne (Jcg hj)] at e2;obtain ⟨u',r',q⟩:=hl j y v' e1 e2 e3;refine ⟨u',r',?_⟩;rcases q with q | ⟨k,c',e,z'⟩
    .exact .inl q
    .refine .inr ⟨k,c',e,z'.sameBut hs ?_⟩;rintro rfl;exact hj (Znp hN e1 (I.ok.inj _ _ _ e hc ▸ hi))
  .by_cases hcc:c' = c
   .subst hcc; exact ⟨_,hc'⟩
   .obtain ⟨w2,z2⟩:=I.cell y c' e;exact ⟨w2,z2.sameBut hs hcc⟩
  .obtain ⟨e,n,ne,nf,d⟩:=I.pin p hp;refine ⟨(hs.2 p.1 ?_).trans e,n,ne,nf,d⟩;intro q;rw [q,hoc] at e;have q':oc = p.2:=Jbp e;exact d w' (by rw [<- q']; exact hocd)
theorem Zhr {M:Model} {A:Around} {E:Value->Shared->Prop} {i:Nat} {x:Str} {v:V} {u:Value} {Q:Unit->Shared->Prop} (I:Inv X pins σ H s) (hN:X.N.Nodup) (hi:X.N[i]? = some x) (hx:Loc X.env.scope x) (r:RelV v u)
  (h:∀ s',Inv X pins (σ.set i (some v)) H s'->Q () s') (hf:X.fn x = true\/X.env.scope.names.lookup x = some .local:=by first | exact .inl rfl | exact .inr rfl | assumption):wpAny M A (storeName X.env x u) Q E s:=
 Zkw I hN hi hx r (λs' I' _=>h s' I') hf
theorem Inv.call' {s':Shared} {ch:List Addr} (I:Inv X pins σ H s) (ho:s'.os = s.os) (u:Un (frs X.stack) ch H H' s.heap s'.heap) (hok:HOk X.prog X.w H' s'.heap) (hg:AllBare s'.gens)
  (hch:∀ b ∈ ch,(b ∈ X.ex\/X.s₀.heap.objs.size<=b)/\b ≠ X.env.locals/\(∀ x c,X.env.cells.lookup x = some c->c ≠ b)/\∀ p ∈ X.pn ++ pins,p.1 ≠ b):Inv X pins σ H' s':=by
 obtain ⟨h',g',d',t',o'⟩:=s';have e:o' = s.os:=ho;subst e;exact I.call (g':=g') (t':=t') (d':=d') u hok hg hch
end
abbrev XK:=Value->Option Addr->Hp->Prop
abbrev St:=List (Option V)
abbrev VK:=V->Hp->Prop
abbrev TE:=St->Hp->VK->Prop
abbrev TT:=St->Hp->(Bool->Hp->Prop)->Prop
abbrev TA:=St->Hp->(List V->Hp->Prop)->Prop
structure Ends where
 nx:St->Hp->Prop
 rt:VK
 bk:St->Hp->Prop:=λ_ _=>False
 ct:St->Hp->Prop:=λ_ _=>False
abbrev TS:=Ends->St->Hp->Prop
def EP (X:Cx) (pins:List (Addr × Obj)) (σ:St) (Q:VK) (u:Value) (s':Shared):Prop:=∃ v H',Inv X pins σ H' s'/\RelV v u/\Q v H'
def TP (X:Cx) (pins:List (Addr × Obj)) (σ:St) (Q:Bool->Hp->Prop) (b:Bool) (s':Shared):Prop:=∃ H',Inv X pins σ H' s'/\Q b H'
def AP (X:Cx) (pins:List (Addr × Obj)) (σ:St) (Q:List V->Hp->Prop) (us:List Value) (s':Shared):Prop:=∃ vs H',Inv X pins σ H' s'/\Vals vs us/\Q vs H'
def SP (X:Cx) (pins:List (Addr × Obj)) (D:Ends) (f:Flow) (s':Shared):Prop:=
 match f with
 | .next=>∃ σ' H',Inv X pins σ' H' s'/\D.nx σ' H'
 | .brk=>∃ σ' H',Inv X pins σ' H' s'/\D.bk σ' H'
 | .cont=>∃ σ' H',Inv X pins σ' H' s'/\D.ct σ' H'
 | .ret u=>∃ v σ' H',Inv X pins σ' H' s'/\RelV v u/\D.rt v H'
def PE (X:Cx) (e:Expr) (t:TE):Prop:=
 ∀ (pins:List (Addr × Obj)) (s:Shared) (σ:St) (H:Hp) (Q:VK),Inv X pins σ H s->t σ H Q->wpAny (model X.prog X.w) X.A (eval e X.env) (EP X pins σ Q) X.xe s
def PT (X:Cx) (e:Expr) (t:TT):Prop:=
 ∀ (pins:List (Addr × Obj)) (s:Shared) (σ:St) (H:Hp) (Q:Bool->Hp->Prop),Inv X pins σ H s->t σ H Q->wpAny (model X.prog X.w) X.A (isTrue e X.env (eval e X.env)) (TP X pins σ Q) X.xe s
def PW (X:Cx) (e:Expr) (t:TT):Prop:=
 ∀ (whole:Sem Value) (pins:List (Addr × Obj)) (s:Shared) (σ:St) (H:Hp) (Q:Bool->Hp->Prop),Inv X pins σ H s->t σ H Q->wpAny (model X.prog X.w) X.A (isTrue e X.env whole) (TP X pins σ Q) X.xe s
theorem PW.pt {X:Cx} {e:Expr} {t:TT} (h:PW X e t):PT X e t:=h _
def PA (X:Cx) (es:List Expr) (t:TA):Prop:=
 ∀ (pos:Pos) (pins:List (Addr × Obj)) (s:Shared) (σ:St) (H:Hp) (Q:List V->Hp->Prop),Inv X pins σ H s->t σ H Q->wpAny (model X.prog X.w) X.A (spliced (backTo pos (starEach es X.env))) (AP X pins σ Q) X.xe s
def PS (X:Cx) (st:Stmt) (t:TS):Prop:=
 ∀ (pins:List (Addr × Obj)) (s:Shared) (σ:St) (H:Hp) (D:Ends),Inv X pins σ H s->t D σ H->wpAny (model X.prog X.w) X.A (exec st X.env) (SP X pins D) X.xe s
def PSs (X:Cx) (st:List Stmt) (t:TS):Prop:=
 ∀ (pins:List (Addr × Obj)) (s:Shared) (σ:St) (H:Hp) (D:Ends),Inv X pins σ H s->t D σ H->wpAny (model X.prog X.w) X.A (execs st X.env) (SP X pins D) X.xe s
theorem thn {α:Type} {t:Sem α} {Q Q':α->Shared->Prop} {M:Model} {A:Around} {E:Value->Shared->Prop} {s:Shared} (h:wpAny M A t Q E s) (hQ:∀ a s,Q a s->Q' a s):wpAny M A t Q' E s:=Jbz h hQ λ_ _ x=>x
section
variable {X:Cx}
theorem bin {a b:Expr} {ta tb:TE} (ha:PE X a ta) (hb:PE X b tb) {pins:List (Addr × Obj)} {s:Shared} {σ:St} {H:Hp} {R:V->V->Hp->Prop} (I:Inv X pins σ H s) (h:ta σ H λx H1=>tb σ H1 λy H2=>R x y H2)
  {α:Type} {Q:α->Shared->Prop} {f:Value->Value->Sem α}
  (hf:∀ v u s2 x y H2,Inv X pins σ H2 s2->RelV x v->RelV y u->R x y H2->wpAny (model X.prog X.w) X.A (f v u) Q X.xe s2):
  wpAny (model X.prog X.w) X.A (eval a X.env) (λv s₁=>wpAny (model X.prog X.w) X.A (eval b X.env) (λu s₂=>wpAny (model X.prog X.w) X.A (f v u) Q X.xe s₂) X.xe s₁) X.xe s:=by
 refine thn (ha pins s σ H _ I h) λv s1 ⟨x,H1,I1,r1,q1⟩=>?_;refine thn (hb pins s1 σ H1 _ I1 q1) λu s2 ⟨y,H2,I2,r2,q2⟩=>?_;exact hf v u s2 x y H2 I2 r1 r2 q2
def Zi6 (i:Nat):TE:=λσ H Q=>∃ v,σ[i]? = some (some v)/\Q v H
def tC (v:V):TE:=λ_ H Q=>Q v H
theorem pe_var {i:Nat} {x:Str} {pos:Pos} (hN:X.N[i]? = some x) (hv:Vis X.env.scope x) (hd:(x == ("__debug__" : Str)) = false:=by decide) (hcd:(x == ("__classdict__" : Str)) = false:=by decide):PE X (.Name x pos) (Zi6 i):=by
 intro pins s σ H Q I h;obtain ⟨v,e,h⟩:=h;obtain ⟨m,hn,hl⟩:=I.loc;obtain ⟨u,r,l⟩:=hl i x v hN e hv;have fin:EP X pins σ Q u s:=⟨v,H,I,r,h⟩
 rcases l with ⟨hk,hm⟩ | ⟨hk,c,hc,hcell⟩
 .exact wpAny_Name (wpAny_loadName_local I.ok.kind hk hn hm fin) hd
 .rcases hk with hk | hk
  .exact wpAny_Name (wpAny_loadName_cell I.ok.kind hk hc hcell fin) hd
  .exact wpAny_Name (wpAny_loadName_free I.ok.kind hk hc hcell fin hcd) hd
theorem Zac {i j pos}:PE X (.Constant (.int i) j pos) (tC (.int i)):=λ_ _ _ H _ I h=>wpAny_Constant_int ⟨.int i,H,I.tok _,⟨_,rfl⟩,h⟩
theorem Zes {b j pos}:PE X (.Constant (.bool b) j pos) (tC (.bl b)):=λ_ _ _ H _ I h=>Constant_bool ⟨.bl b,H,I,rfl,h⟩
theorem Zf5 {j pos}:PE X (.Constant .none j pos) (tC .non):=λ_ _ _ H _ I h=>Constant_none ⟨.non,H,I,rfl,h⟩
def Gl (X:Cx) (x:Str):Prop:=X.env.kindOf x = some .globalImplicit
theorem Zmz {E:Value->Shared->Prop} {pins:List (Addr × Obj)} {s:Shared} {σ:St} {H:Hp} {x:Str} {u:Value} {pos:Pos} {Q:Value->Shared->Prop} (I:Inv X pins σ H s) (hg:Gl X x) (hm:X.mg x = some u) (h:Q u s)
  (hd:(x == ("__debug__" : Str)) = false:=by decide):wpAny (model X.prog X.w) X.A (eval (.Name x pos) X.env) Q E s:=
 Calls.Name_function_global I.ok.kind hg (Calls.loadGlobal_global (by rw [I.ok.glob]; exact I.mod.glob.keeps I.bk) hm h) hd
theorem Zfg {E:Value->Shared->Prop} {pins:List (Addr × Obj)} {s:Shared} {σ:St} {H:Hp} {x:Str} {u:Value} {pos:Pos} {Q:Value->Shared->Prop} (I:Inv X pins σ H s) (hg:Gl X x) (hm:X.mg x = none) (hv:bootBuiltins x = some u) (h:Q u s)
  (hn:x ≠ "__name__" := by decide) (hd:(x == ("__debug__" : Str)) = false:=by decide):wpAny (model X.prog X.w) X.A (eval (.Name x pos) X.env) Q E s:=by
 obtain ⟨mb,h1,h2⟩:=I.mod.blt;exact Calls.Name_function_global I.ok.kind hg (Calls.loadGlobal_builtin (by rw [I.ok.glob]; exact I.mod.glob.keeps I.bk) hm (by rw [I.ok.blt]; exact h1.keeps I.bk) ((h2 x hn).trans hv) h) hd
theorem pe_glob {x:Str} {v:V} {u:Value} {pos:Pos} (hg:Gl X x) (hm:X.mg x = some u) (r:RelV v u) (hd:(x == ("__debug__" : Str)) = false:=by decide):PE X (.Name x pos) (tC v):=
 λ_ _ _ H _ I h=>Zmz I hg hm ⟨v,H,I,r,h⟩ hd
theorem pe_bltn {x:Str} {v:V} {u:Value} {pos:Pos} (hg:Gl X x) (hm:X.mg x = none) (hv:bootBuiltins x = some u) (r:RelV v u) (hn:x ≠ "__name__" := by decide) (hd:(x == ("__debug__" : Str)) = false:=by decide):PE X (.Name x pos) (tC v):=
 λ_ _ _ H _ I h=>Zfg I hg hm hv ⟨v,H,I,r,h⟩ hn hd
variable {a b:Expr} {ta tb:TE} {pos:Pos}
def PC (X:Cx) (op:CmpOp) (a b:Expr) (t:TE):Prop:=
 ∀ (pins:List (Addr × Obj)) (s:Shared) (σ:St) (H:Hp) (Q:VK),Inv X pins σ H s->t σ H Q->
  wpAny (model X.prog X.w) X.A (eval a X.env) (λv s₁=>wpAny (model X.prog X.w) X.A (eval b X.env) (λu s₂=>wpAny (model X.prog X.w) X.A (compareOp op v u) (EP X pins σ Q) X.xe s₂) X.xe s₁) X.xe s
theorem Ztj (b:Expr) {op:CmpOp} (h:op ≠ .In) (h2:op ≠ .NotIn):behindInMarks op b = false:=by
 have e1:(op == CmpOp.In) = false:=by cases op <;> first | rfl | exact absurd rfl h
 have e2:(op == CmpOp.NotIn) = false:=by cases op <;> first | rfl | exact absurd rfl h2
 cases b <;> simp [behindInMarks,e1,e2]
def tB (t:TE):TT:=λσ H Q=>t σ H λx H1=>∃ c,x = .bl c/\Q c H1
theorem pt_cmp {op:CmpOp} {t:TE} (h:PC X op a b t) (h1:behindInMarks op b = false:=by first | exact Ztj _ (by decide) (by decide) | rfl):PT X (.Compare a [op] [b] pos) (tB t):=by
 intro pins s σ H Q I hw;refine wpAny_isTrue_Compare1 (thn (h pins s σ H _ I hw) λv s1 h1=>thn h1 λu s2 h2=>thn h2 λc s3 ⟨x,H1,I1,r1,q1⟩=>?_) h1;obtain ⟨d,rfl,q⟩:=q1;cases r1;exact Jb9 ⟨H1,I1,q⟩
theorem Zd2 {e:Expr} {t:TE} (h:PE X e t) (he:∀ whole,isTrue e X.env whole = (do let v <- whole; standAt e.pos; holding [v] (truthy v)):=by intro _; rfl):PT X e (tB t):=by
 intro pins s σ H Q I hw;refine isTrue_plain (thn (h pins s σ H _ I hw) λv s1 ⟨x,H1,I1,r1,q1⟩=>?_) (he _);obtain ⟨d,rfl,q⟩:=q1;cases r1;exact Jb9 ⟨H1,I1,q⟩
variable {tA tB':TT} {rest:List Expr}
def tAnd (t u:TT):TT:=λσ H Q=>t σ H λc H1=>if c = true then u σ H1 Q else Q false H1
def tOr (t u:TT):TT:=λσ H Q=>t σ H λc H1=>if c = true then Q true H1 else u σ H1 Q
def tNot (t:TT):TT:=λσ H Q=>t σ H λc H1=>Q (!c) H1
theorem Zil (ha:PT X a tA):PW X (.BoolOp .And [a] pos) tA:=by
 intro wh pins s σ H Q I h;refine isTrue_and (thn (ha pins s σ H Q I h) λc s1 e=>?_);cases c with
 | true=>exact isTrue_and_nil e
 | false=>exact e
theorem Zgk (ha:PT X a tA):PW X (.BoolOp .Or [a] pos) tA:=by
 intro wh pins s σ H Q I h;refine isTrue_or (thn (ha pins s σ H Q I h) λc s1 e=>?_);cases c with
 | false=>exact isTrue_or_nil e
 | true=>exact e
theorem Zk5 (ha:PT X a tA) (hb:PW X (.BoolOp .And (b :: rest) pos) tB'):PW X (.BoolOp .And (a :: b :: rest) pos) (tAnd tA tB'):=by
 intro wh pins s σ H Q I h;refine isTrue_and (thn (ha pins s σ H _ I h) λc s1 ⟨H1,I1,q1⟩=>?_);cases c with
 | true=>exact hb wh pins s1 σ H1 Q I1 q1
 | false=>exact ⟨H1,I1,q1⟩
theorem Zhl (ha:PT X a tA) (hb:PW X (.BoolOp .Or (b :: rest) pos) tB'):PW X (.BoolOp .Or (a :: b :: rest) pos) (tOr tA tB'):=by
 intro wh pins s σ H Q I h;refine isTrue_or (thn (ha pins s σ H _ I h) λc s1 ⟨H1,I1,q1⟩=>?_);cases c with
 | true=>exact ⟨H1,I1,q1⟩
 | false=>exact hb wh pins s1 σ H1 Q I1 q1
theorem Zd3 (ha:PT X a tA):PT X (.UnaryOp .Not a pos) (tNot tA):=by
 intro pins s σ H Q I h;exact isTrue_not (ha pins s σ H (λc H1=>Q (!c) H1) I h)
def tAndV (ta tb:TE):TE:=λσ H Q=>ta σ H λx H1=>∃ c,x = .bl c/\if c = true then tb σ H1 Q else Q (.bl false) H1
def tOrV (ta tb:TE):TE:=λσ H Q=>ta σ H λx H1=>∃ c,x = .bl c/\if c = true then Q (.bl true) H1 else tb σ H1 Q
def tNotV (ta:TE):TE:=λσ H Q=>ta σ H λx H1=>∃ c,x = .bl c/\Q (.bl (!c)) H1
theorem Zjr {op} {t:TE} (h:PE X a t):PE X (.BoolOp op [a] pos) t:=λpins s σ H Q I hw=>BoolOp_one (h pins s σ H Q I hw)
theorem Zjs (ha:PE X a ta) (hb:PE X (.BoolOp .And (b :: rest) pos) tb):PE X (.BoolOp .And (a :: b :: rest) pos) (tAndV ta tb):=by
 intro pins s σ H Q I h;refine BoolOp_and (thn (ha pins s σ H _ I h) λv s1 ⟨x,H1,I1,r1,q1⟩=>?_);obtain ⟨c,rfl,q1⟩:=q1;cases r1;refine Jb9 ?_;cases c with
 | true=>exact hb pins s1 σ H1 Q I1 q1
 | false=>exact ⟨.bl false,H1,I1,rfl,q1⟩
theorem pe_or (ha:PE X a ta) (hb:PE X (.BoolOp .Or (b :: rest) pos) tb):PE X (.BoolOp .Or (a :: b :: rest) pos) (tOrV ta tb):=by
 intro pins s σ H Q I h;refine BoolOp_or (thn (ha pins s σ H _ I h) λv s1 ⟨x,H1,I1,r1,q1⟩=>?_);obtain ⟨c,rfl,q1⟩:=q1;cases r1;refine Jb9 ?_;cases c with
 | false=>exact hb pins s1 σ H1 Q I1 q1
 | true=>exact ⟨.bl true,H1,I1,rfl,q1⟩
theorem Zur (ha:PE X a ta):PE X (.UnaryOp .Not a pos) (tNotV ta):=by
 intro pins s σ H Q I h;refine UnaryOp_ (thn (ha pins s σ H _ I h) λv s1 ⟨x,H1,I1,r1,q1⟩=>?_);obtain ⟨c,rfl,q1⟩:=q1;cases r1;exact not_of (Jb9 ⟨.bl (!c),H1,I1,rfl,q1⟩)
def tIf (t:TT) (ta tb:TE):TE:=λσ H Q=>t σ H λc H1=>if c = true then ta σ H1 Q else tb σ H1 Q
theorem Zsz {c:Expr} (hc:PT X c tA) (ha:PE X a ta) (hb:PE X b tb):PE X (.IfExp c a b pos) (tIf tA ta tb):=by
 intro pins s σ H Q I h;refine wpAny_IfExp (thn (hc pins s σ H _ I h) λd s1 ⟨H1,I1,q1⟩=>?_);cases d with
 | true=>exact ha pins s1 σ H1 Q I1 q1
 | false=>exact hb pins s1 σ H1 Q I1 q1
end
def SqL (K:PySem.W.Frag) (H:Hp) (a:Addr) (xs:List V):Prop:=
 Rd H a (.lst xs) \/
  ∃ (o:Obj) (its:Array Value) (n:Nat),K.lookup a = some o/\o.cls = .type "list" /\ o.dict = none/\o.data = .seq its n/\its.size<=sizeLine/\Vals xs its.toList
def SqT (K:PySem.W.Frag) (H:Hp) (a:Addr) (xs:List V):Prop:=
 Rd H a (.tup xs) \/
  ∃ (o:Obj) (its:Array Value) (n:Nat),K.lookup a = some o/\o.cls = .type "tuple" /\ o.data = .seq its n/\its.size<=sizeLine/\Vals xs its.toList
noncomputable def absV:Value->Option V
 | .none=>some .non
 | .bool b=>some (.bl b)
 | .int i _=>some (.int i)
 | .str x _=>some (.str x)
 | .bytes b _=>some (.byt b)
 | .float b _=>some (.flt b)
 | .ref a=>some (.ref a)
 | .type n=>some (.ty n)
 | _=>none
theorem RelV.abs {x:V} {u:Value} (r:RelV x u):absV u = some x:=by
 cases x with
 | non=>cases r; rfl
 | bl _=>cases r; rfl
 | int _=>obtain ⟨t,rfl⟩:=r; rfl
 | str _=>obtain ⟨t,rfl⟩:=r; rfl
 | byt _=>obtain ⟨t,rfl⟩:=r; rfl
 | flt _=>obtain ⟨t,rfl⟩:=r; rfl
 | ref _=>cases r; rfl
 | ty _=>cases r; rfl
theorem RelV.inj {x y:V} {u:Value} (r:RelV x u) (q:RelV y u):x = y:=Jbp (r.abs.symm.trans q.abs)
theorem Vals.inj:∀ {xs ys:List V} {us:List Value},Vals xs us->Vals ys us->xs = ys
 | _,_,_,.nil,.nil=>rfl
 | _,_,_,.cons r t,.cons r' t'=>by rw [r.inj r',Vals.inj t t']
section
variable {X:Cx} {pins:List (Addr × Obj)} {σ:St} {H:Hp} {s:Shared} {a:Addr} {xs ys:List V}
theorem SqL.of {K:PySem.W.Frag} (h:H a = some (.lst xs)):SqL K H a xs:=.inl (.inl h)
theorem SqT.of {K:PySem.W.Frag} (h:H a = some (.tup xs)):SqT K H a xs:=.inl (.inl h)
theorem Inv.list (I:Inv X pins σ H s) (h:SqL X.K H a xs):∃ its:List Value,Vals xs its/\PlainL s.heap a its.toArray/\xs.length<=sizeLine:=by
 rcases h with h | ⟨o,its,n,hk,hc,hd,hs,hz,r⟩
 .obtain ⟨z,its,n,r,e⟩:=h.ok I.hok;exact ⟨its,r,⟨_,n,e,rfl,rfl,rfl⟩,z⟩
 .refine ⟨its.toList,r,⟨o,n,I.kIn a o hk,hc,hd,by simpa using hs⟩,?_⟩;have e:=r.length;simp only [Jer] at e;omega
theorem Inv.tuple (I:Inv X pins σ H s) (h:SqT X.K H a xs):∃ its:List Value,Vals xs its/\IsTup s.heap a its.toArray/\xs.length<=sizeLine:=by
 rcases h with h | ⟨o,its,n,hk,hc,hs,hz,r⟩
 .obtain ⟨z,its,r,p⟩:=h.ok I.hok;exact ⟨its,r,p,z⟩
 .refine ⟨its.toList,r,⟨o,I.kIn a o hk,hc,n,by simpa using hs⟩,?_⟩;have e:=r.length;simp only [Jer] at e;omega
theorem Inv.list_inj (I:Inv X pins σ H s) (h:SqL X.K H a xs) (h':SqL X.K H a ys):xs = ys:=by
 obtain ⟨its,r,⟨o,n,e,_,_,d⟩,_⟩:=I.list h;obtain ⟨its',r',⟨o',n',e',_,_,d'⟩,_⟩:=I.list h';rw [e] at e'; cases e';rw [d] at d'
 injection d' with d1 _
 have:its = its':=by simpa using Jdz Array.toList d1
 subst this;exact r.inj r'
theorem Inv.tuple_inj (I:Inv X pins σ H s) (h:SqT X.K H a xs) (h':SqT X.K H a ys):xs = ys:=by
 obtain ⟨its,r,⟨o,e,_,n,d⟩,_⟩:=I.tuple h;obtain ⟨its',r',⟨o',e',_,n',d'⟩,_⟩:=I.tuple h';rw [e] at e'; cases e';rw [d] at d'
 injection d' with d1 _
 have:its = its':=by simpa using Jdz Array.toList d1
 subst this;exact r.inj r'
end
abbrev Cx.wish (X:Cx) (E:Value->Shared->Prop):Cx:={ X with xe:=E }
abbrev Cx.nox (X:Cx):Cx:=X.wish λ_ _=>False
theorem Cx.Ok.wish {X:Cx} (ok:X.Ok) (E:Value->Shared->Prop):(X.wish E).Ok:=
 ⟨ok.mod,ok.kind,ok.glob,ok.blt,ok.above,ok.inj,ok.has,ok.cab,ok.hd,ok.frames,ok.stk,ok.exf,ok.bs,ok.bsz,ok.noex,ok.exfs,ok.funs,ok.frf,ok.top⟩
theorem Cx.Ok.unwish {X:Cx} {E:Value->Shared->Prop} (ok:(X.wish E).Ok):X.Ok:=
 ⟨ok.mod,ok.kind,ok.glob,ok.blt,ok.above,ok.inj,ok.has,ok.cab,ok.hd,ok.frames,ok.stk,ok.exf,ok.bs,ok.bsz,ok.noex,ok.exfs,ok.funs,ok.frf,ok.top⟩
section
variable {X:Cx} {pins:List (Addr × Obj)} {σ:St} {H:Hp} {s:Shared} {E:Value->Shared->Prop}
theorem Inv.wish (I:Inv X pins σ H s) (E:Value->Shared->Prop):Inv (X.wish E) pins σ H s:=⟨I.ok.wish E,I.os,I.bare,I.base,I.loc,I.cell,I.free,I.freeC,I.pin,I.hok,I.len⟩
theorem Inv.unwish (I:Inv (X.wish E) pins σ H s):Inv X pins σ H s:=⟨I.ok.unwish,I.os,I.bare,I.base,I.loc,I.cell,I.free,I.freeC,I.pin,I.hok,I.len⟩
theorem SP.unwish {D:Ends} {f:Flow} {s':Shared} (h:SP (X.wish E) pins D f s'):SP X pins D f s':=by
 cases f with
 | next=>obtain ⟨σ',H',I,q⟩:=h; exact ⟨σ',H',I.unwish,q⟩
 | brk=>obtain ⟨σ',H',I,q⟩:=h; exact ⟨σ',H',I.unwish,q⟩
 | cont=>obtain ⟨σ',H',I,q⟩:=h; exact ⟨σ',H',I.unwish,q⟩
 | ret u=>obtain ⟨v,σ',H',I,r,q⟩:=h; exact ⟨v,σ',H',I.unwish,r,q⟩
theorem PSs.nox {st:List Stmt} {t:TS} (h:PSs X.nox st t):PSs X st t:=λpins s σ H D I hw=>
 Jbz (h pins s σ H D (I.wish _) hw) (λ_ _ q=>q.unwish) λ_ _ z=>False.elim z
end
section
variable {X:Cx} {st:Stmt} {rest:List Stmt} {t u:TS} {e:Expr} {te:TE} {pos:Pos}
def tNext:TS:=λD σ H=>D.nx σ H
def Zi7 (t u:TS):TS:=λD σ H=>t { D with nx:=u D } σ H
theorem Zao:PSs X [] tNext:=λ_ _ σ H _ I h=>Jes ⟨σ,H,I,h⟩
theorem Zsw (h1:PS X st t) (h2:PSs X rest u):PSs X (st :: rest) (Zi7 t u):=by
 intro pins s σ H D I h;refine wpAny_execs_cons (thn (h1 pins s σ H { D with nx:=u D } I h) λf s1 q=>?_);cases f with
 | next=>
  obtain ⟨σ',H',I',q⟩:=q;exact h2 pins s1 σ' H' D I' q
 | ret v=>exact q
 | brk=>exact q
 | cont=>exact q
theorem Zas (h1:PS X st t):PSs X [st] t:=by
 intro pins s σ H D I h;refine wpAny_execs_cons (thn (h1 pins s σ H D I h) λf s1 q=>?_);cases f with
 | next=>exact Jes q
 | ret v=>exact q
 | brk=>exact q
 | cont=>exact q
def tCont:TS:=λD σ H=>D.ct σ H
theorem Zim:PS X (.Continue pos) tCont:=λ_ _ σ H _ I h=>wpAny_Continue ⟨σ,H,I,h⟩
theorem Inv.quiet {pins:List (Addr × Obj)} {σ:St} {H:Hp} {s:Shared} (I:Inv X pins σ H s):interactive X.env = false:=by simp [interactive,I.ok.kind]
def tDrop (te:TE):TS:=λD σ H=>te σ H λ_ H1=>D.nx σ H1
theorem Zdx (he:PE X e te) (hs:swapsWith e none pos.line X.env = pure false:=by rfl):PS X (.Expr e pos) (tDrop te):=by
 intro pins s σ H D I h;exact wpAny_Expr_any (thn (he pins s σ H _ I h) λv s1 ⟨x,H1,I1,r1,q1⟩=>⟨σ,H1,I1,q1⟩) I.quiet hs
def tRet (te:TE):TS:=λD σ H=>te σ H D.rt
theorem ps_ret (he:PE X e te):PS X (.Return (some e) pos) (tRet te):=by
 intro pins s σ H D I h;exact wpAny_Return_some (thn (he pins s σ H _ I h) λv s1 ⟨x,H1,I1,r1,q1⟩=>⟨x,σ,H1,I1,r1,q1⟩)
def tRetN:TS:=λD _ H=>D.rt .non H
def tIfS (c:TT) (t u:TS):TS:=λD σ H=>c σ H λb H1=>if b = true then t D σ H1 else u D σ H1
theorem Za4 {c:Expr} {a b:List Stmt} {tc:TT} (hc:PT X c tc) (ha:PSs X a t) (hb:PSs X b u):PS X (.If c a b pos) (tIfS tc t u):=by
 intro pins s σ H D I h;refine wpAny_If (thn (hc pins s σ H _ I h) λd s1 ⟨H1,I1,q1⟩=>?_);cases d with
 | true=>exact ha pins s1 σ H1 D I1 q1
 | false=>exact hb pins s1 σ H1 D I1 q1
def tNever:TS:=λ_ _ _=>False
theorem Zfr:PS X st tNever:=λ_ _ _ _ _ _ h=>h.elim
end
abbrev TG:=V->St->Hp->(St->Hp->Prop)->Prop
abbrev TGs:=List V->St->Hp->(St->Hp->Prop)->Prop
def PG (X:Cx) (target:Expr) (t:TG):Prop:=
 ∀ (pins:List (Addr × Obj)) (s:Shared) (σ:St) (H:Hp) (v:V) (u:Value) (Q:St->Hp->Prop),Inv X pins σ H s->RelV v u->t v σ H Q->
  wpAny (model X.prog X.w) X.A (assign target X.env u) (λ_ s'=>∃ σ' H',Inv X pins σ' H' s'/\Q σ' H') X.xe s
def PGs (X:Cx) (ts:List Expr) (t:TGs):Prop:=
 ∀ (pins:List (Addr × Obj)) (s:Shared) (σ:St) (H:Hp) (vs:List V) (us:List Value) (Q:St->Hp->Prop),Inv X pins σ H s->Vals vs us->t vs σ H Q->
  wpAny (model X.prog X.w) X.A (assignInOrder ((assignEach ts X.env).map (·.2)) us) (λ_ s'=>∃ σ' H',Inv X pins σ' H' s'/\Q σ' H') X.xe s
abbrev TSet:=V->V->V->Hp->(Hp->Prop)->Prop
def PSet (X:Cx) (t:TSet):Prop:=
 ∀ (pins:List (Addr × Obj)) (s:Shared) (σ:St) (H:Hp) (o i v:V) (ov iv u:Value) (Q:Hp->Prop),Inv X pins σ H s->RelV o ov->RelV i iv->RelV v u->t o i v H Q->
  wpAny (model X.prog X.w) X.A (setItem ov iv u) (λ_ s'=>∃ H',Inv X pins σ H' s'/\Q H') X.xe s
abbrev TIp:=V->V->Hp->VK->Prop
section
variable {X:Cx} {pos:Pos}
def Zb4 (i:Nat):TG:=λv σ H Q=>Q (σ.set i (some v)) H
theorem Zae {i:Nat} {x:Str} (hN:X.N.Nodup) (hi:X.N[i]? = some x) (hx:Loc X.env.scope x) (hf:X.fn x = true\/X.env.scope.names.lookup x = some .local:=by first | exact .inl rfl | exact .inr rfl | assumption):PG X (.Name x pos) (Zb4 i):=by
 intro pins s σ H v u Q I r h;exact wpAny_assign_Name (Zhr I hN hi hx r (λs' I'=>⟨_,H,I',h⟩) hf)
def gNil:TGs:=λvs σ H Q=>vs = []/\Q σ H
def Zls (t:TG) (u:TGs):TGs:=λvs σ H Q=>∃ v r,vs = v :: r/\t v σ H λσ' H'=>u r σ' H' Q
theorem Za3:PGs X [] gNil:=by
 intro pins s σ H vs us Q I r h;obtain ⟨e,h⟩:=h;subst e;cases r;exact assignInOrder_nil ⟨σ,H,I,h⟩
theorem Zag {e:Expr} {es:List Expr} {t:TG} {u:TGs} (h1:PG X e t) (h2:PGs X es u)
  (hs:(assignEach (e :: es) X.env).map (·.2) = assign e X.env :: (assignEach es X.env).map (·.2):=by rfl):PGs X (e :: es) (Zls t u):=by
 intro pins s σ H vs us Q I r h;obtain ⟨v,vr,e1,h⟩:=h;subst e1;cases r with
 | cons r rr=>
  rw [hs];refine assignInOrder_cons (thn (h1 pins s σ H _ _ _ I r h) λ_ s1 ⟨σ1,H1,I1,q1⟩=>?_);exact h2 pins s1 σ1 H1 _ _ Q I1 rr q1
def gTup (K:PySem.W.Frag) (n:Nat) (t:TGs):TG:=λv σ H Q=>∃ a xs,v = .ref a/\SqT K H a xs/\xs.length = n/\t xs σ H Q
theorem Zcd {es:List Expr} {k:Nat} {t:TGs} {n:Nat} (hc:X.calm = true) (h:PGs X es t)
  (hn:(assignEach es X.env).length = n:=by rfl) (hst:(assignEach es X.env).findIdx? (·.1) = none:=by rfl):PG X (.Tuple es k pos) (gTup X.K n t):=by
 intro pins s σ H v u Q I r hw;obtain ⟨a,xs,e1,hq,hl,hw⟩:=hw;subst e1;cases r;obtain ⟨its,rv,ht,hz⟩:=I.tuple hq;refine assign_Tuple_tuple (I.ok.hd hc) ht (by simp [hn,<- hl,rv.length]) hst λh' hx=>?_;have I1:Inv X pins σ H { s with heap:=h' }:=I.kept (t':=s.toks) λb o e=>hx b o (Ja6 (Jak e)) e;exact h pins _ σ H xs _ Q I1 (by simpa using rv) hw
def gSub (to ti:TE) (t:TSet):TG:=λv σ H Q=>to σ H λo H1=>ti σ H1 λi H2=>t o i v H2 λH3=>Q σ H3
theorem Zf4 {o i:Expr} {to ti:TE} {t:TSet} (ho:PE X o to) (hi:PE X i ti) (hs:PSet X t)
  (ha:∀ v,assign (.Subscript o i pos) X.env v = (do
   let ov <- holding [v] (eval o X.env)
   let iv <- holding [v,ov] (eval i X.env)
   standAt pos
   holding [v,ov,iv] (setItem ov iv v)
   release [v,ov,iv] []):=by intro _; rfl):PG X (.Subscript o i pos) (gSub to ti t):=by
 intro pins s σ H v u Q I r h;rw [ha];refine Jaf (Jca (thn (ho pins s σ H _ I h) λov s1 ⟨x,H1,I1,r1,q1⟩=>?_));refine Jaf (Jca (thn (hi pins s1 σ H1 _ I1 q1) λiv s2 ⟨y,H2,I2,r2,q2⟩=>?_));refine Jaf (Jc7 (Jaf (Jca (thn (hs pins s2 σ H2 x y v ov iv u _ I2 r1 r2 r q2) λ_ s3 ⟨H3,I3,q3⟩=>?_))));exact wpAny_release ⟨σ,H3,I3,q3⟩
def tAsg (te:TE) (g:TG):TS:=λD σ H=>te σ H λx H1=>g x σ H1 D.nx
theorem Zbm {tg e:Expr} {te:TE} {g:TG} (he:PE X e te) (hg:PG X tg g) (hs:swapsWithSole [tg] e pos.line X.env = pure false:=by rfl) (hw:swappedStores [tg] e X.env = pure none:=by rfl)
  (h1:(assignEach [tg] X.env).map (·.2) = [assign tg X.env]:=by rfl):PS X (.Assign [tg] e pos) (tAsg te g):=by
 intro pins s σ H D I h;refine wpAny_Assign_stores (thn (he pins s σ H _ I h) λv s1 ⟨x,H1,I1,r1,q1⟩=>?_) hs hw;rw [h1];exact thn (hg pins s1 σ H1 x v _ I1 r1 q1) λ_ s2 q=>q
theorem Zar {i:Nat} {x:Str} {e:Expr} {te:TE} {pos':Pos} (hN:X.N.Nodup) (hi:X.N[i]? = some x) (hx:Loc X.env.scope x) (he:PE X e te) (hs:swapsWith e (some (.Name x pos')) pos.line X.env = pure false:=by rfl) (hf:X.fn x = true\/X.env.scope.names.lookup x = some .local:=by first | exact .inl rfl | exact .inr rfl | assumption):
  PS X (.Assign [.Name x pos'] e pos) (tAsg te (Zb4 i)):=by
 intro pins s σ H D I h;refine wpAny_Assign_Name (thn (he pins s σ H _ I h) λv s1 ⟨y,H1,I1,r1,q1⟩=>?_) hs;exact Zhr I1 hN hi hx r1 (λs2 I2=>⟨_,H1,I2,q1⟩) hf
def tPar (i j:Nat) (ta:TA):TS:=λD σ H=>ta σ H λvs H1=>∃ v w,vs = [v,w]/\D.nx ((σ.set i (some v)).set j (some w)) H1
theorem Zjq {i j:Nat} {x y:Str} {a b:Expr} {ta:TA} {px py pt:Pos} {kt k2 pt2} (hc:X.calm = true) (hN:X.N.Nodup) (hi:X.N[i]? = some x) (hj:X.N[j]? = some y) (hij:i ≠ j)
  (hx:X.env.scope.names.lookup x = some .local) (hy:X.env.scope.names.lookup y = some .local) (ha:PA X [a,b] ta)
  (hw:swappedStores [.Tuple [.Name x px,.Name y py] kt pt] (.Tuple [a,b] k2 pt2) X.env = pure (some [x,y]))
  (hs:swapsWithSole [.Tuple [.Name x px,.Name y py] kt pt] (.Tuple [a,b] k2 pt2) pos.line X.env = pure false:=by rfl):
  PS X (.Assign [.Tuple [.Name x px,.Name y py] kt pt] (.Tuple [a,b] k2 pt2) pos) (tPar i j ta):=by
 intro pins s σ H D I h;rw [exec_Assign_arm];refine Jaf (Jc7 ?_);rw [hs];refine Jaf (Jan ?_);rw [if_neg (by decide)];refine Jaf (Tuple_ (thn (ha _ pins s σ H _ I h) λus s1 ⟨vs,H1,I1,r1,q1⟩=>?_));obtain ⟨v,w,e1,q1⟩:=q1;subst e1;obtain ⟨u1,u2,rfl,rv,rw'⟩:∃ u1 u2,us = [u1,u2]/\RelV v u1/\RelV w u2:=by
  cases r1 with
  | cons p q=>
   cases q with
   | cons p' q'=>
    cases q';exact ⟨_,_,rfl,p,p'⟩
 refine Jc0 ?_ (by show 2<=sizeLine; decide);have I2:Inv X pins σ H1 { s1 with heap:=s1.heap.push { cls:=.type "tuple",data:=.seq [u1,u2].toArray } }:=I1.kept (t':=s1.toks) λb o e=>Jai _ e;rw [hw];refine Jaf (Jan ?_);show wpAny (model X.prog X.w) X.A (do rule "assign.swapped-stores"; let items <- unpackItems (.ref s1.heap.objs.size) 2 none; assignInOrder [λv=>bindName X.env y v,λv=>bindName X.env x v] items.reverse; pure Flow.next) _ _ _;refine Jaf (Jfm (Jaf (unpackItems_tuple (items:=#[u1,u2]) (I.ok.hd hc) (IsTup.new s1.heap _) λh' hx'=>?_)));have I3:=I2.kept (h':=h') (t':=s1.toks) λb o e=>hx' b o (Ja6 (Jak e)) e;show wpAny _ _ (assignInOrder [λv=>bindName X.env y v,λv=>bindName X.env x v] [u2,u1] >>= λ_=>pure Flow.next) _ _ _;refine Jaf (assignInOrder_cons (wpAny_bindName (Zhr I3 hN hj (.inl hy) rw' (λs2 I4=>?_) (.inr hy))));refine assignInOrder_cons (wpAny_bindName (Zhr I4 hN hi (.inl hx) rv (λs3 I5=>assignInOrder_nil (Jan ?_)) (.inr hx)));rw [List.set_comm _ _ (Jcg hij)] at I5;exact ⟨_,H1,I5,q1⟩
def tAug (i:Nat) (te:TE) (ti:TIp):TS:=λD σ H=>∃ x,σ[i]? = some (some x)/\te σ H λy H1=>ti x y H1 λz H2=>D.nx (σ.set i (some z)) H2
def tAugS (to ti te:TE) (tget:V->V->Hp->VK->Prop) (tip:TIp) (tset:TSet):TS:=λD σ H=>to σ H λo H1=>ti σ H1 λi H2=>tget o i H2 λx H3=>te σ H3 λy H4=>tip x y H4 λz H5=>tset o i z H5 λH6=>D.nx σ H6
def ipI (f:Int->Int->Int):TIp:=λx y H Q=>∃ i j,x = .int i/\y = .int j/\Q (.int (f i j)) H
end
section
variable {X:Cx} {pos:Pos}
def tWhile (c:TT) (tb:TS):TS:=λD σ H=>∃ W:Nat->St->Hp->Prop,(∃ m,W m σ H)/\∀ m σ H,W m σ H->
 c σ H λb H1=>if b = true then ∃ N:St->Hp->Prop,(∀ σ' H',N σ' H'->∃ m',m' < m/\W m' σ' H')/\tb { D with nx:=N,ct:=N,bk:=D.nx } σ H1 else D.nx σ H1
theorem Zgl {c:Expr} {body:List Stmt} {tc:TT} {tb:TS} (hp:PassesOwn (model X.prog X.w) X.A X.env X.xe) (hc:PT X c tc) (hb:PSs X body tb):PS X (.While c body [] pos) (tWhile tc tb):=by
 intro pins s σ H D I h;obtain ⟨W,⟨m0,w0⟩,turn⟩:=h;refine wpAny_While (codeAny_whileLoop (λn s'=>∃ σ' H',Inv X pins σ' H' s'/\W n σ' H') ?_ m0 ⟨σ,H,I,w0⟩);rintro n s1 ⟨σ1,H1,I1,w1⟩;refine Jdc hp (thn (hc pins s1 σ1 H1 _ I1 (turn n σ1 H1 w1)) λb s2 ⟨H2,I2,q2⟩=>?_);cases b with
 | true=>
  obtain ⟨N,hN,q2⟩:=q2;rw [if_pos rfl];refine Jdc hp (thn (hb pins s2 σ1 H2 _ I2 q2) λf s3 q3=>?_);cases f with
  | next=>
   obtain ⟨σ3,H3,I3,n3⟩:=q3;obtain ⟨m',hm,w3⟩:=hN σ3 H3 n3;exact ⟨m',hm,σ3,H3,I3,w3⟩
  | cont=>
   obtain ⟨σ3,H3,I3,n3⟩:=q3;obtain ⟨m',hm,w3⟩:=hN σ3 H3 n3;exact ⟨m',hm,σ3,H3,I3,w3⟩
  | brk=>exact q3
  | ret v=>exact q3
 | false=>
  rw [if_neg Jax];exact Jes ⟨σ1,H2,I2,q2⟩
end
structure It where
 go:Nat->Hp->Prop
 yld:Nat->Hp->V->Hp->Prop
 stop:Nat->Hp->Prop
def FpOk (X:Cx) (pins:List (Addr × Obj)) (H:Hp) (b:Addr):Prop:=
 H b = none/\b ≠ X.env.locals/\b ∉ X.fs/\(b ∈ X.ex\/X.s₀.heap.objs.size<=b)/\(∀ x c,X.env.cells.lookup x = some c->c ≠ b)/\∀ p ∈ X.pn ++ pins,p.1 ≠ b
theorem Inv.fpOk {X:Cx} {pins:List (Addr × Obj)} {σ:St} {H H':Hp} {s:Shared} {b:Addr} (I:Inv X pins σ H s) (hb:s.heap.objs.size<=b) (hn:H' b = none):FpOk X pins H' b:=by
 refine ⟨hn,Jby (Ja0 I.lt hb),I.nofs hb,.inr (Jat I.sz hb),λx c e z=>?_,λp hp z=>?_⟩
 .obtain ⟨v,q⟩:=I.cell x c e;exact absurd (Ja0 q.lt (by rw [z]; exact hb)) (Jbs _)
 .exact absurd (Ja0 (Jak (I.pin p hp).1) (by rw [z]; exact hb)) (Jbs _)
structure Turn (P:Program) (w:World) (K:PySem.W.Frag) (tg:Expr) (J:It) (fp:List Addr) (it:Addr) (tn:Nat->Heap->Prop):Prop where
 mem:it ∈ fp
 obj:∀ i h,tn i h->∀ b ∈ fp,∃ o,h.get? b = some o/\∀ v,o.data ≠ .cell v
 keep:∀ i h h',tn i h->(∀ b ∈ fp,∀ o,h.get? b = some o->h'.get? b = some o)->tn i h'
 item:∀ (X:Cx),X.prog = P->X.w = w->X.K = K->X.calm = true->∀ (i:Nat) (pins:List (Addr × Obj)) (s:Shared) (σ:St) (H:Hp) (E:Value->Shared->Prop),Inv X pins σ H s->(∀ b ∈ fp,FpOk X pins H b)->tn i s.heap->J.go i H->
  wpAny (model P w) X.A (pyNext (.ref it)) (λr s1=>∃ u,r = some u /\
   wpAny (model P w) X.A (letOwnedTupleGo tg (.ref it) u) (λ_ s2=>∃ x H',Inv X pins σ H' s2/\RelV x u/\J.yld i H x H'/\tn (i + 1) s2.heap/\∀ b ∈ fp,H' b = none) E s1) E s
 done:∀ (X:Cx),X.prog = P->X.w = w->X.K = K->X.calm = true->∀ (i:Nat) (pins:List (Addr × Obj)) (s:Shared) (σ:St) (H:Hp) (E:Value->Shared->Prop),Inv X pins σ H s->(∀ b ∈ fp,FpOk X pins H b)->tn i s.heap->J.stop i H->
  wpAny (model P w) X.A (pyNext (.ref it)) (λr s1=>r = none/\Inv X pins σ H s1) E s
 self:∀ (A:Around) (i:Nat) (s:Shared) (Q:Value->Shared->Prop) (E:Value->Shared->Prop),tn i s.heap->Q (.ref it) s->wpAny (model P w) A (pyIter (.ref it)) Q E s
abbrev TI:=St->Hp->(It->Hp->Prop)->Prop
def PIE (X:Cx) (pins:List (Addr × Obj)) (σ:St) (tg:Expr) (R:It->Hp->Prop) (itv:Value) (s2:Shared):Prop:=
 ∃ (it:Addr) (fp:List Addr) (tn:Nat->Heap->Prop) (J:It) (H':Hp),itv = .ref it/\Inv X pins σ H' s2/\Turn X.prog X.w X.K tg J fp it tn/\tn 0 s2.heap/\(∀ b ∈ fp,FpOk X pins H' b)/\R J H'
def PI (X:Cx) (tg iter:Expr) (wi:TI):Prop:=
 ∀ (pins:List (Addr × Obj)) (s:Shared) (σ:St) (H:Hp) (R:It->Hp->Prop),Inv X pins σ H s->wi σ H R->
  wpAny (model X.prog X.w) X.A (eval iter X.env) (λv s1=>wpAny (model X.prog X.w) X.A (pyIter v) (PIE X pins σ tg R) X.xe s1) X.xe s
theorem Ztw {M:Model} {A:Around} {E:Value->Shared->Prop} {s:Shared} {tg:Expr} {it:Addr} {u:Value} {o:Obj} {n:String} {vs:Array Value} {Q:Unit->Shared->Prop} (ho:s.heap.get? it = some o) (hc:o.cls = .type n) (hd:o.data = .fields vs)
  (hn:["enumerate","zip","dict_itemiterator","dict_reverseitemiterator","odict_iterator","itertools.zip_longest","itertools.pairwise"].contains n = false) (hQ:Q () s):wpAny M A (letOwnedTupleGo tg (.ref it) u) Q E s:=by
 unfold letOwnedTupleGo;cases tg <;> first
  | exact Jan hQ
  | (cases u <;> first
    | exact Jan hQ
    | (refine Jaf (wpAny_load ho ?_); rw [hc,hd]; show wpAny M A (if (["enumerate","zip","dict_itemiterator","dict_reverseitemiterator","odict_iterator","itertools.zip_longest","itertools.pairwise"].contains n && vs[0]? == some (rawInt _)) = true then _ else _) Q E s; rw [if_neg (by intro h; rw [hn,Bool.false_and] at h; cases h)]; exact Jan hQ))
def Itl (K:PySem.W.Frag) (a:Addr):It:=
 ⟨λi H=>∃ xs x,SqL K H a xs/\xs[i]? = some x,λi H x H'=>H' = H/\∀ xs,SqL K H a xs->xs[i]? = some x,λi H=>∃ xs,SqL K H a xs/\xs.length<=i⟩
def Itt (K:PySem.W.Frag) (a:Addr):It:=
 ⟨λi H=>∃ xs x,SqT K H a xs/\xs[i]? = some x,λi H x H'=>H' = H/\∀ xs,SqT K H a xs->xs[i]? = some x,λi H=>∃ xs,SqT K H a xs/\xs.length<=i⟩
def Itr (lo:Int) (n:Nat):It:=⟨λi _=>i < n,λi H x H'=>H' = H/\x = .int (lo + i),λi _=>n<=i⟩
theorem Zo7 {P:Program} {w:World} {K:PySem.W.Frag} {tg:Expr} (a it:Addr):Turn P w K tg (Itl K a) [it] it (λi h=>h.IsListIter it a i) where
 mem:=by simp
 obj:=λi h st b hb=>by
  have e:b = it:=by simpa using hb
  subst e;obtain ⟨o,e,c,d⟩:=st;exact ⟨o,e,λv z=>by rw [d] at z; cases z⟩
 keep:=λi h h' st k=>st.at λo e=>k it (by simp) o e
 item:=by
  intro X hP hw hK hc i pins s σ H E I hf st hg;subst hP hw hK;obtain ⟨xs,x,hq,hx⟩:=hg;obtain ⟨its,rv,p,hz⟩:=I.list hq;obtain ⟨u,hu,ru⟩:=rv.get hx;obtain ⟨f0,f1,f2,f3,f4,f5⟩:=hf it (by simp);refine Jee st p.isList (x:=u) (by simpa using hu) λh' st' sb=>?_;have I1:Inv X pins σ H { s with heap:=h' }:=I.turned (t':=s.toks) (λb o hb e=>(sb.2 b hb).trans e) f0 f1 f3 f4 f5;obtain ⟨o,e,c,d⟩:=id st';exact ⟨u,rfl,Ztw (s:={ s with heap:=h' }) e c d (by decide) ⟨x,H,I1,ru,⟨rfl,λys hy=>by rw [I.list_inj hy hq]; exact hx⟩,st',λb hb=>(hf b hb).1⟩⟩
 done:=by
  intro X hP hw hK hc i pins s σ H E I hf st hg;subst hP hw hK;obtain ⟨xs,hq,hx⟩:=hg;obtain ⟨its,rv,p,hz⟩:=I.list hq;obtain ⟨f0,f1,f2,f3,f4,f5⟩:=hf it (by simp);have hl:=rv.length;exact Jei (I.ok.hd hc) st p.isList (by simp; omega) λh' eb=>⟨rfl,I.turned (t':=s.toks) (λb o hb e=>eb b o hb e) f0 f1 f3 f4 f5⟩
 self:=λ_ _ _ _ _ st h=>wpAny_pyIter_listiter st h
theorem Zob {P:Program} {w:World} {K:PySem.W.Frag} {tg:Expr} (a it:Addr):Turn P w K tg (Itt K a) [it] it (λi h=>h.IsTupleIter it a i) where
 mem:=by simp
 obj:=λi h st b hb=>by
  have e:b = it:=by simpa using hb
  subst e;obtain ⟨o,e,c,d⟩:=st;exact ⟨o,e,λv z=>by rw [d] at z; cases z⟩
 keep:=λi h h' st k=>st.at λo e=>k it (by simp) o e
 item:=by
  intro X hP hw hK hc i pins s σ H E I hf st hg;subst hP hw hK;obtain ⟨xs,x,hq,hx⟩:=hg;obtain ⟨its,rv,p,hz⟩:=I.tuple hq;obtain ⟨u,hu,ru⟩:=rv.get hx;obtain ⟨f0,f1,f2,f3,f4,f5⟩:=hf it (by simp);refine wpAny_pyNext_tuple_item st (show s.heap.IsTuple a its.toArray from p) (x:=u) (by simpa using hu) λh' st' sb=>?_;have I1:Inv X pins σ H { s with heap:=h' }:=I.turned (t':=s.toks) (λb o hb e=>(sb.2 b hb).trans e) f0 f1 f3 f4 f5;obtain ⟨o,e,c,d⟩:=id st';exact ⟨u,rfl,Ztw (s:={ s with heap:=h' }) e c d (by decide) ⟨x,H,I1,ru,⟨rfl,λys hy=>by rw [I.tuple_inj hy hq]; exact hx⟩,st',λb hb=>(hf b hb).1⟩⟩
 done:=by
  intro X hP hw hK hc i pins s σ H E I hf st hg;subst hP hw hK;obtain ⟨xs,hq,hx⟩:=hg;obtain ⟨its,rv,p,hz⟩:=I.tuple hq;obtain ⟨f0,f1,f2,f3,f4,f5⟩:=hf it (by simp);have hl:=rv.length;exact wpAny_pyNext_tuple_end (I.ok.hd hc) st (show s.heap.IsTuple a its.toArray from p) (by simp; omega) λh' eb=>⟨rfl,I.turned (t':=s.toks) (λb o hb e=>eb b o hb e) f0 f1 f3 f4 f5⟩
 self:=λ_ _ _ _ _ st h=>wpAny_pyIter_tupleiter st h
theorem Zoc {P:Program} {w:World} {K:PySem.W.Frag} {tg:Expr} (it:Addr) (lo:Int) (n:Nat):Turn P w K tg (Itr lo n) [it] it (λi h=>IsRangeIter h it (lo + (i:Nat) * 1) ((n:Int) - (i:Nat)) 1) where
 mem:=by simp
 obj:=λi h st b hb=>by
  have e:b = it:=by simpa using hb
  subst e;exact ⟨_,st,λv z=>by
   have z':Data.fields _ = Data.cell v:=z;cases z'⟩
 keep:=λi h h' st k=>k it (by simp) _ st
 item:=by
  intro X hP hw hK hc i pins s σ H E I hf st hg;subst hP hw hK;obtain ⟨f0,f1,f2,f3,f4,f5⟩:=hf it (by simp);have W:=Walks.range (prog:=X.prog) (w:=X.w) (I.ok.hd hc) it lo 1 n;refine W.item i s _ _ hg st λv h' tk hv st' kk=>?_;obtain ⟨t,rfl⟩:=hv;have I1:Inv X pins σ H { s with heap:=h',toks:=tk }:=I.turned (λb o hb e=>kk b o (by simpa using hb) e) f0 f1 f3 f4 f5;refine ⟨_,rfl,Ztw (s:={ s with heap:=h',toks:=tk }) (n:="range_iterator") st' rfl rfl (by decide) ⟨.int (lo + i),H,I1,⟨t,?_⟩,⟨rfl,rfl⟩,st',λb hb=>(hf b hb).1⟩⟩;rw [Int.mul_one]
 done:=by
  intro X hP hw hK hc i pins s σ H E I hf st hg;subst hP hw hK;obtain ⟨f0,f1,f2,f3,f4,f5⟩:=hf it (by simp);exact wpAny_pyNext_range_end (I.ok.hd hc) st (by have:n<=i:=hg; omega) λh' eb=>⟨rfl,I.turned (t':=s.toks) (λb o hb e=>eb b o hb e) f0 f1 f3 f4 f5⟩
 self:=λ_ _ _ _ _ st h=>wpAny_pyIter_rangeiter st h
section
variable {X:Cx} {tg:Expr}
def iList (K:PySem.W.Frag) (tl:TE):TI:=λσ H R=>tl σ H λx H1=>∃ a,x = .ref a/\(∃ xs,SqL K H1 a xs)/\R (Itl K a) H1
def iTup (K:PySem.W.Frag) (tl:TE):TI:=λσ H R=>tl σ H λx H1=>∃ a,x = .ref a/\(∃ xs,SqT K H1 a xs)/\R (Itt K a) H1
theorem Zbd {l:Expr} {tl:TE} (hl:PE X l tl):PI X tg l (iList X.K tl):=by
 intro pins s σ H R I h;refine thn (hl pins s σ H _ I h) λv s1 ⟨x,H1,I1,r1,q1⟩=>?_;obtain ⟨a,e,⟨xs,hq⟩,q⟩:=q1;subst e;cases r1;obtain ⟨its,rv,p,hz⟩:=I1.list hq;refine Jd0 p.isList ?_;refine ⟨s1.heap.objs.size,[s1.heap.objs.size],_,_,H1,rfl,I1.kept (t':=s1.toks) λb o e=>Jai _ e,Zo7 a _,⟨_,Ja5 _ rfl,rfl,rfl⟩,λb hb=>?_,q⟩;have e:b = s1.heap.objs.size:=by simpa using hb
 subst e;exact I1.fpOk (Jag _) (I1.hok.fresh (Jag _))
theorem pi_tup {l:Expr} {tl:TE} (hl:PE X l tl):PI X tg l (iTup X.K tl):=by
 intro pins s σ H R I h;refine thn (hl pins s σ H _ I h) λv s1 ⟨x,H1,I1,r1,q1⟩=>?_;obtain ⟨a,e,⟨xs,hq⟩,q⟩:=q1;subst e;cases r1;obtain ⟨its,rv,p,hz⟩:=I1.tuple hq;refine wpAny_pyIter_tuple (show s1.heap.IsTuple a its.toArray from p) ?_;refine ⟨s1.heap.objs.size,[s1.heap.objs.size],_,_,H1,rfl,I1.kept (t':=s1.toks) λb o e=>Jai _ e,Zob a _,⟨_,Ja5 _ rfl,rfl,rfl⟩,λb hb=>?_,q⟩;have e:b = s1.heap.objs.size:=by simpa using hb
 subst e;exact I1.fpOk (Jag _) (I1.hok.fresh (Jag _))
theorem Znn {pins:List (Addr × Obj)} {σ:St} {H:Hp} {s:Shared} {R:It->Hp->Prop} {E:Value->Shared->Prop} {lo hi:Int} {t u v:Tok} {tk:Nat} (I:Inv X pins σ H s) (h1:-(2 ^ 62)<=lo) (h2:lo < 2 ^ 62) (h3:-(2 ^ 62)<=hi) (h4:hi < 2 ^ 62)
  (q:R (Itr lo (hi - lo).toNat) H):wpAny (model X.prog X.w) X.A (pyIter (.ref s.heap.objs.size)) (PIE X pins σ tg R) E { s with heap:=s.heap.push { cls:=.type "range",data:=.fields #[.int lo t,.int hi u,.int 1 v] },toks:=tk }:=by
 refine wpAny_pyIter_range (IsRange.new ..) (small_one h1 h2 h3 h4) ?_;have I1:Inv X pins σ H { s with heap:=s.heap.push { cls:=.type "range",data:=.fields #[.int lo t,.int hi u,.int 1 v] },toks:=tk }:=I.kept λb o e=>Jai _ e;refine ⟨(s.heap.push { cls:=.type "range",data:=.fields #[.int lo t,.int hi u,.int 1 v] }).objs.size,[(s.heap.push { cls:=.type "range",data:=.fields #[.int lo t,.int hi u,.int 1 v] }).objs.size],_,_,H,rfl,
  I1.kept (t':=tk) λb o e=>Jai _ e,Zoc _ lo (hi - lo).toNat,?_,λb hb=>?_,q⟩
 .have e1:lo + ((0:Nat):Int) * 1 = lo:=by simp
  have e2:(((hi - lo).toNat:Nat):Int) - ((0:Nat):Int) = Builtin.Range.rangeSize lo hi 1:=by rw [rangeSize_one]; split <;> omega
  show IsRangeIter _ _ (lo + ((0:Nat):Int) * 1) ((((hi - lo).toNat:Nat):Int) - ((0:Nat):Int)) 1;rw [e1,e2];exact Ja5 _ rfl
 .have e:b = (s.heap.push { cls:=.type "range",data:=.fields #[.int lo t,.int hi u,.int 1 v] }).objs.size:=by simpa using hb
  subst e;exact I1.fpOk (Jag _) (I1.hok.fresh (Jag _))
def iRng1 (ta:TA):TI:=λσ H R=>ta σ H λvs H1=>∃ j:Int,vs = [.int j]/\-(2 ^ 62)<=j/\j < 2 ^ 62/\R (Itr 0 j.toNat) H1
def iRng2 (ta:TA):TI:=λσ H R=>ta σ H λvs H1=>∃ i j:Int,vs = [.int i,.int j]/\(-(2 ^ 62)<=i/\i < 2 ^ 62/\-(2 ^ 62)<=j/\j < 2 ^ 62)/\R (Itr i (j - i).toNat) H1
theorem Zpz {a:Expr} {ta:TA} {p pos:Pos} (hg:Gl X "range") (hm:X.mg "range" = none) (ha:PA X [a] ta) (hs:starEach [a] X.env = [(false,eval a X.env)]:=by rfl):PI X tg (.Call (.Name "range" p) [a] [] pos) (iRng1 ta):=by
 intro pins s σ H R I h;refine Call_ (Zfg I hg hm boot_range (Jbq (thn (ha pos pins s σ H _ I h) λus s1 ⟨vs,H1,I1,r1,q1⟩=>?_) hs rfl));obtain ⟨j,e,q1,q2,q⟩:=q1;subst e;cases r1 with
 | cons r rr=>
  cases rr;obtain ⟨t,rfl⟩:=r;exact call_range_1 (Znn I1 (by omega) (by omega) q1 q2 (by simpa using q))
theorem Zpy {a b:Expr} {ta:TA} {p pos:Pos} (hg:Gl X "range") (hm:X.mg "range" = none) (ha:PA X [a,b] ta) (hs:starEach [a,b] X.env = [(false,eval a X.env),(false,eval b X.env)]:=by rfl) (hs2:starEach [b] X.env = [(false,eval b X.env)]:=by rfl):
  PI X tg (.Call (.Name "range" p) [a,b] [] pos) (iRng2 ta):=by
 intro pins s σ H R I h;refine Call_ (Zfg I hg hm boot_range (Jbq (thn (ha pos pins s σ H _ I h) λus s1 ⟨vs,H1,I1,r1,q1⟩=>?_) (by rw [hs,hs2]) (by rw [hs2]; rfl)));obtain ⟨i,j,e,⟨q1,q2,q3,q4⟩,q⟩:=q1;subst e;cases r1 with
 | cons r rr=>
  cases rr with
  | cons r' rr=>
   cases rr;obtain ⟨t,rfl⟩:=r;obtain ⟨t',rfl⟩:=r';exact call_range_2 (Znn I1 q1 q2 q3 q4 q)
def tFor (wi:TI) (g:TG) (tb:TS):TS:=λD σ H=>wi σ H λJ H1=>∃ W:Nat->Nat->St->Hp->Prop,(∃ m,W 0 m σ H1)/\∀ i m σ H,W i m σ H->
 (J.stop i H/\D.nx σ H)\/(J.go i H/\∃ N:St->Hp->Prop,(∀ σ' H',N σ' H'->∃ m',m' < m/\W (i + 1) m' σ' H')/\∀ x H',J.yld i H x H'->g x σ H' λσ2 H2=>tb { D with nx:=N,ct:=N,bk:=D.nx } σ2 H2)
def Zhd (fp:List Addr) (h:Heap):List (Addr × Obj):=fp.filterMap λb=>(h.get? b).map λo=>(b,o)
theorem Zca {fp:List Addr} {h:Heap} {b:Addr} {o:Obj} (hb:b ∈ fp) (e:h.get? b = some o):(b,o) ∈ Zhd fp h:=List.mem_filterMap.mpr ⟨b,hb,by rw [e]; rfl⟩
theorem Zqf {fp:List Addr} {h:Heap} {p:Addr × Obj} (hp:p ∈ Zhd fp h):p.1 ∈ fp/\h.get? p.1 = some p.2:=by
 obtain ⟨b,hb,e⟩:=List.mem_filterMap.mp hp;cases q:h.get? b with
 | none=>rw [q] at e; cases e
 | some o=>
  rw [q] at e;have e':(b,o) = p:=Jbp e;subst e';exact ⟨hb,q⟩
theorem Inv.pinned {pins:List (Addr × Obj)} {σ:St} {H:Hp} {s:Shared} {fp:List Addr} (I:Inv X pins σ H s) (hf:∀ b ∈ fp,FpOk X pins H b) (ho:∀ b ∈ fp,∃ o,s.heap.get? b = some o/\∀ v,o.data ≠ .cell v):Inv X (pins ++ Zhd fp s.heap) σ H s:=
 I.pins_of λp hp=>(Jal.mp hp).elim (λz=>I.pin p (Ja2 _ z)) λz=>by
  obtain ⟨hb,e⟩:=Zqf z;obtain ⟨f0,f1,f2,_⟩:=hf p.1 hb;obtain ⟨o,e',d⟩:=ho p.1 hb;rw [e] at e'; cases e';exact ⟨e,f0,f1,f2,d⟩
theorem Inv.unpinned {pins pl:List (Addr × Obj)} {σ:St} {H:Hp} {s:Shared} (I:Inv X (pins ++ pl) σ H s):Inv X pins σ H s:=I.pins_of λp hp=>I.pin p (Ja2 _ (List.mem_append_left _ hp))
theorem Zco {iter:Expr} {body:List Stmt} {wi:TI} {g:TG} {tb:TS} {pos:Pos} (hp:PassesOwn (model X.prog X.w) X.A X.env X.xe) (hc:X.calm = true) (hi:PI X tg iter wi) (hg:PG X tg g) (hb:PSs X body tb)
  (hs:∀ x,foldedSetIterable iter X.env x = pure x:=by intro _; rfl):PS X (.For tg iter body [] pos) (tFor wi g tb):=by
 intro pins s σ H D I h;refine wpAny_For (thn (hi pins s σ H _ I h) λv s1 h1=>thn h1 λitv s2 h2=>?_) hs;obtain ⟨it,fp,tn,J,H2,e,I2,T,st2,f2,W,⟨m0,w0⟩,turn⟩:=h2;subst e
 -- what stays true of the iterator's objects Zh3 the loop
 have stat:∀ {H':Hp},(∀ b ∈ fp,H' b = none)->∀ b ∈ fp,FpOk X pins H' b:=λhn b hb=>⟨hn b hb,(f2 b hb).2⟩
 refine codeAny_forLoop_any (λn s'=>∃ i σ' H',Inv X pins σ' H' s'/\tn i s'.heap/\(∀ b ∈ fp,H' b = none)/\W i n σ' H') ?_ m0 ⟨0,σ,H2,I2,st2,λb hb=>(f2 b hb).1,w0⟩;rintro n s3 ⟨i,σ3,H3,I3,st3,fr3,w3⟩;rcases turn i n σ3 H3 w3 with ⟨stop,qn⟩ | ⟨go,N,hN,step⟩
 .refine Jdc hp (thn (T.done X rfl rfl rfl hc i pins s3 σ3 H3 X.xe I3 (stat fr3) st3 stop) λr s4 ⟨hr,I4⟩=>?_);subst hr;exact Jes ⟨σ3,H3,I4,qn⟩
 .refine Jdc hp (thn (T.item X rfl rfl rfl hc i pins s3 σ3 H3 X.xe I3 (stat fr3) st3 go) λr s4 ⟨u,hr,h4⟩=>?_);subst hr;refine Jdc hp (thn h4 λ_ s5 ⟨x,H5,I5,r5,y5,st5,fr5⟩=>?_);have I5':=I5.pinned (stat fr5) (T.obj _ _ st5);refine Jdc hp (thn (hg _ s5 σ3 H5 x u _ I5' r5 (step x H5 y5)) λ_ s6 ⟨σ6,H6,I6,q6⟩=>?_);refine Jdc hp (thn (hb _ s6 σ6 H6 _ I6 q6) λf s7 q7=>?_);have again:∀ {σ7:St} {H7:Hp},Inv X (pins ++ Zhd fp s5.heap) σ7 H7 s7->N σ7 H7->∃ m,m < n/\∃ i σ' H',Inv X pins σ' H' s7/\tn i s7.heap/\(∀ b ∈ fp,H' b = none)/\W i m σ' H':=λ{σ7 H7} I7 n7=>by
   obtain ⟨m',hm,w7⟩:=hN σ7 H7 n7;refine ⟨m',hm,i + 1,σ7,H7,I7.unpinned,T.keep _ _ _ st5 λb hb o e=>(I7.pin (b,o) (Ja2 _ (Ja2 _ (Zca hb e)))).1,λb hb=>?_,w7⟩;obtain ⟨o,e,d⟩:=T.obj _ _ st5 b hb;exact (I7.pin (b,o) (Ja2 _ (Ja2 _ (Zca hb e)))).2.1
  cases f with
  | next=>obtain ⟨σ7,H7,I7,n7⟩:=q7; exact again I7 n7
  | cont=>obtain ⟨σ7,H7,I7,n7⟩:=q7; exact again I7 n7
  | brk=>obtain ⟨σ7,H7,I7,q7⟩:=q7; exact ⟨σ7,H7,I7.unpinned,q7⟩
  | ret v=>obtain ⟨x7,σ7,H7,I7,r7,q7⟩:=q7; exact ⟨x7,σ7,H7,I7.unpinned,r7,q7⟩
end
theorem Zfu {K:PySem.W.Frag} {a:Addr} {xs:List V} {g:TG} {tb:TS} {D:Ends} {σ:St} {H:Hp} (Pv:Nat->St->Hp->Prop) (h0:Pv 0 σ H) (hl:∀ i σ H,i<=xs.length->Pv i σ H->SqL K H a xs)
  (hs:∀ i x σ H,xs[i]? = some x->Pv i σ H->g x σ H λσ2 H2=>tb { D with nx:=Pv (i + 1),ct:=Pv (i + 1),bk:=D.nx } σ2 H2) (hd:∀ σ H,Pv xs.length σ H->D.nx σ H):
  ∃ W:Nat->Nat->St->Hp->Prop,(∃ m,W 0 m σ H)/\∀ i m σ H,W i m σ H->
   ((Itl K a).stop i H/\D.nx σ H)\/((Itl K a).go i H/\∃ N:St->Hp->Prop,(∀ σ' H',N σ' H'->∃ m',m' < m/\W (i + 1) m' σ' H')/\∀ x H',(Itl K a).yld i H x H'->g x σ H' λσ2 H2=>tb { D with nx:=N,ct:=N,bk:=D.nx } σ2 H2):=by
 refine ⟨λi m σ H=>m = xs.length - i/\i<=xs.length/\Pv i σ H,⟨xs.length,by simp,Jb3 _,h0⟩,?_⟩;rintro i m σ H ⟨rfl,hi,p⟩;have q:=hl i σ H hi p;by_cases hlt:i < xs.length
 .refine .inr ⟨⟨xs,xs[i],q,by simp [hlt]⟩,Pv (i + 1),λσ' H' p'=>⟨xs.length - (i + 1),by omega,rfl,hlt,p'⟩,λx H' y=>?_⟩;obtain ⟨e,y⟩:=y;subst e;exact hs i x σ _ (y xs q) p
 .have e:i = xs.length:=by omega
  subst e;exact .inl ⟨⟨xs,q,Jag _⟩,hd σ H p⟩
theorem for_tup {K:PySem.W.Frag} {a:Addr} {xs:List V} {g:TG} {tb:TS} {D:Ends} {σ:St} {H:Hp} (Pv:Nat->St->Hp->Prop) (h0:Pv 0 σ H) (hl:∀ i σ H,i<=xs.length->Pv i σ H->SqT K H a xs)
  (hs:∀ i x σ H,xs[i]? = some x->Pv i σ H->g x σ H λσ2 H2=>tb { D with nx:=Pv (i + 1),ct:=Pv (i + 1),bk:=D.nx } σ2 H2) (hd:∀ σ H,Pv xs.length σ H->D.nx σ H):
  ∃ W:Nat->Nat->St->Hp->Prop,(∃ m,W 0 m σ H)/\∀ i m σ H,W i m σ H->
   ((Itt K a).stop i H/\D.nx σ H)\/((Itt K a).go i H/\∃ N:St->Hp->Prop,(∀ σ' H',N σ' H'->∃ m',m' < m/\W (i + 1) m' σ' H')/\∀ x H',(Itt K a).yld i H x H'->g x σ H' λσ2 H2=>tb { D with nx:=N,ct:=N,bk:=D.nx } σ2 H2):=by
 refine ⟨λi m σ H=>m = xs.length - i/\i<=xs.length/\Pv i σ H,⟨xs.length,by simp,Jb3 _,h0⟩,?_⟩;rintro i m σ H ⟨rfl,hi,p⟩;have q:=hl i σ H hi p;by_cases hlt:i < xs.length
 .refine .inr ⟨⟨xs,xs[i],q,by simp [hlt]⟩,Pv (i + 1),λσ' H' p'=>⟨xs.length - (i + 1),by omega,rfl,hlt,p'⟩,λx H' y=>?_⟩;obtain ⟨e,y⟩:=y;subst e;exact hs i x σ _ (y xs q) p
 .have e:i = xs.length:=by omega
  subst e;exact .inl ⟨⟨xs,q,Jag _⟩,hd σ H p⟩
theorem Zch {lo:Int} {n:Nat} {g:TG} {tb:TS} {D:Ends} {σ:St} {H:Hp} (Pv:Nat->St->Hp->Prop) (h0:Pv 0 σ H)
  (hs:∀ i σ H,i < n->Pv i σ H->g (.int (lo + i)) σ H λσ2 H2=>tb { D with nx:=Pv (i + 1),ct:=Pv (i + 1),bk:=D.nx } σ2 H2) (hd:∀ σ H,Pv n σ H->D.nx σ H):
  ∃ W:Nat->Nat->St->Hp->Prop,(∃ m,W 0 m σ H)/\∀ i m σ H,W i m σ H->
   ((Itr lo n).stop i H/\D.nx σ H)\/((Itr lo n).go i H/\∃ N:St->Hp->Prop,(∀ σ' H',N σ' H'->∃ m',m' < m/\W (i + 1) m' σ' H')/\∀ x H',(Itr lo n).yld i H x H'->g x σ H' λσ2 H2=>tb { D with nx:=N,ct:=N,bk:=D.nx } σ2 H2):=by
 refine ⟨λi m σ H=>m = n - i/\i<=n/\Pv i σ H,⟨n,by simp,Jb3 _,h0⟩,?_⟩;rintro i m σ H ⟨rfl,hi,p⟩;by_cases hlt:i < n
 .refine .inr ⟨hlt,Pv (i + 1),λσ' H' p'=>⟨n - (i + 1),by omega,rfl,hlt,p'⟩,λx H' y=>?_⟩;obtain ⟨e,y⟩:=y;subst e y;exact hs i σ _ hlt p
 .have e:i = n:=by omega
  subst e;exact .inl ⟨Jag _,hd σ H p⟩
abbrev R2:=V->V->Hp->VK->Prop
def OpR (X:Cx) (f:Value->Value->Sem Value) (r:R2):Prop:=
 ∀ (pins:List (Addr × Obj)) (s:Shared) (σ:St) (H:Hp) (x y:V) (v u:Value) (Q:VK),Inv X pins σ H s->RelV x v->RelV y u->r x y H Q->
  wpAny (model X.prog X.w) X.A (f v u) (EP X pins σ Q) X.xe s
def UnR (X:Cx) (f:Value->Sem Value) (r:V->Hp->VK->Prop):Prop:=
 ∀ (pins:List (Addr × Obj)) (s:Shared) (σ:St) (H:Hp) (x:V) (v:Value) (Q:VK),Inv X pins σ H s->RelV x v->r x H Q->
  wpAny (model X.prog X.w) X.A (f v) (EP X pins σ Q) X.xe s
def Zgu (X:Cx) (f:Value) (r:List V->Hp->VK->Prop):Prop:=
 ∀ (pins:List (Addr × Obj)) (s:Shared) (σ:St) (H:Hp) (xs:List V) (us:List Value) (Q:VK),Inv X pins σ H s->Vals xs us->r xs H Q->
  wpAny (model X.prog X.w) X.A (call f us) (EP X pins σ Q) X.xe s
def tOp (r:R2) (ta tb:TE):TE:=λσ H Q=>ta σ H λx H1=>tb σ H1 λy H2=>r x y H2 Q
def tUn (r:V->Hp->VK->Prop) (ta:TE):TE:=λσ H Q=>ta σ H λx H1=>r x H1 Q
def rI (C:Int->Int->Prop) (g:Int->Int->V):R2:=λx y H Q=>∃ i j,x = .int i/\y = .int j/\C i j/\Q (g i j) H
def rI0 (g:Int->Int->V):R2:=λx y H Q=>∃ i j,x = .int i/\y = .int j/\Q (g i j) H
def rU (g:Int->V):V->Hp->VK->Prop:=λx H Q=>∃ i,x = .int i/\Q (g i) H
section
variable {X:Cx} {a b c:Expr} {ta tb tc:TE} {pos:Pos}
theorem binT (ha:PE X a ta) (hb:PE X b tb) {pins:List (Addr × Obj)} {s:Shared} {σ:St} {H:Hp} {R:V->V->Hp->Prop} (I:Inv X pins σ H s)
  (h:ta σ H λx H1=>tb σ H1 λy H2=>R x y H2) {Q:Value->Shared->Prop} {f:Value->Value->Sem Value}
  (hf:∀ v u s2 x y H2,Inv X pins σ H2 s2->RelV x v->RelV y u->R x y H2->wpAny (model X.prog X.w) X.A (f v u) Q X.xe s2):
  wpAny (model X.prog X.w) X.A (eval a X.env) (λv s₁=>wpAny (model X.prog X.w) X.A (eval b X.env) (λu s₂=>wpAny (model X.prog X.w) X.A (f v u) Q X.xe s₂) X.xe s₁) X.xe s:=by
 refine thn (ha pins s σ H _ I h) λv s1 ⟨x,H1,I1,r1,q1⟩=>?_;refine thn (hb pins s1 σ H1 _ I1 q1) λu s2 ⟨y,H2,I2,r2,q2⟩=>?_;exact hf v u s2 x y H2 I2 r1 r2 q2
theorem pe_op {op:Operator} {r:R2} (ho:OpR X (binaryOp op) r) (ha:PE X a ta) (hb:PE X b tb):PE X (.BinOp a op b pos) (tOp r ta tb):=by
 intro pins s σ H Q I h;exact wpAny_BinOp (binT ha hb I h λv u s2 x y H2 I2 rx ry q=>ho pins s2 σ H2 x y v u Q I2 rx ry q)
theorem Zi2 {op:UnaryOp} {r:V->Hp->VK->Prop} (ho:UnR X (unaryOp op) r) (ha:PE X a ta):PE X (.UnaryOp op a pos) (tUn r ta):=by
 intro pins s σ H Q I h;exact UnaryOp_ (thn (ha pins s σ H _ I h) λv s1 ⟨x,H1,I1,r1,q1⟩=>ho pins s1 σ H1 x v Q I1 r1 q1)
theorem opI {f:Value->Value->Sem Value} {C:Int->Int->Prop} {g:Int->Int->Int}
  (rule:∀ (i j:Int) (t u:Tok) (s:Shared) (Q:Value->Shared->Prop) (E:Value->Shared->Prop),C i j->Q (.int (g i j) s.toks) { s with toks:=s.toks + 1 }->wpAny (model X.prog X.w) X.A (f (.int i t) (.int j u)) Q E s):
  OpR X f (rI C λi j=>.int (g i j)):=by
 intro pins s σ H x y v u Q I rx ry h;obtain ⟨i,j,rfl,rfl,hc,q⟩:=h;obtain ⟨t,rfl⟩:=rx;obtain ⟨t',rfl⟩:=ry;exact rule i j t t' s _ _ hc ⟨.int (g i j),H,I.tok _,⟨_,rfl⟩,q⟩
theorem opI0 {f:Value->Value->Sem Value} {g:Int->Int->Int}
  (rule:∀ (i j:Int) (t u:Tok) (s:Shared) (Q:Value->Shared->Prop) (E:Value->Shared->Prop),Q (.int (g i j) s.toks) { s with toks:=s.toks + 1 }->wpAny (model X.prog X.w) X.A (f (.int i t) (.int j u)) Q E s):
  OpR X f (rI0 λi j=>.int (g i j)):=by
 intro pins s σ H x y v u Q I rx ry h;obtain ⟨i,j,rfl,rfl,q⟩:=h;obtain ⟨t,rfl⟩:=rx;obtain ⟨t',rfl⟩:=ry;exact rule i j t t' s _ _ ⟨.int (g i j),H,I.tok _,⟨_,rfl⟩,q⟩
theorem opB0 {f:Value->Value->Sem Value} {g:Int->Int->Bool}
  (rule:∀ (i j:Int) (t u:Tok) (s:Shared) (Q:Value->Shared->Prop) (E:Value->Shared->Prop),Q (.bool (g i j)) s->wpAny (model X.prog X.w) X.A (f (.int i t) (.int j u)) Q E s):
  OpR X f (rI0 λi j=>.bl (g i j)):=by
 intro pins s σ H x y v u Q I rx ry h;obtain ⟨i,j,rfl,rfl,q⟩:=h;obtain ⟨t,rfl⟩:=rx;obtain ⟨t',rfl⟩:=ry;exact rule i j t t' s _ _ ⟨.bl (g i j),H,I,rfl,q⟩
def CDiv (i j:Int):Prop:=0 < j/\j < 1073741824
def CPow (i j:Int):Prop:=0<=j/\j<=1000000/\i.natAbs < 2 ^ 64
def CMul (i j:Int):Prop:=(-(2 ^ 64) < i/\i < 2 ^ 64)\/(-(2 ^ 64) < j/\j < 2 ^ 64)
theorem CMul.ok {i j:Int} (h:CMul i j):IntMulOk i j:=by
 rcases h with ⟨h1,h2⟩ | ⟨h1,h2⟩
 .exact .of_left (intBits_le_64 h1 h2)
 .exact .of_right (intBits_le_64 h1 h2)
theorem two_pow_nn (k:Nat):(0:Int)<=2 ^ k:=by
 rw [two_pow_cast];exact Jez _
theorem Zdf:OpR X (binaryOp .Add) (rI0 λi j=>.int (i + j)):=opI0 λ_ _ _ _ _ _ _ q=>add_int q
theorem Zfd:OpR X (binaryOp .Sub) (rI0 λi j=>.int (i - j)):=opI0 λ_ _ _ _ _ _ _ q=>sub_int q
theorem Zjt:OpR X (binaryOp .Mult) (rI CMul λi j=>.int (i * j)):=opI λ_ _ _ _ _ _ _ hc q=>mul_int q hc.ok
theorem Zj7:OpR X (binaryOp .FloorDiv) (rI CDiv λi j=>.int (i / j)):=opI λi j _ _ _ _ _ hc q=>by
 have h1:(0:Int) < j:=hc.1;have h2:j < 1073741824:=hc.2;exact floordiv_int (by omega) (by rw [Jb2 i (by omega)]; exact q) (.inl (PyProof.noPylong_small (by omega)))
theorem Zct:OpR X (binaryOp .Mod) (rI (λ_ j=>0 < j) λi j=>.int (i % j)):=opI λi j _ _ _ _ _ hc q=>by
 have h1:(0:Int) < j:=hc;exact mod_int' (by omega) (by rw [Int.fmod_eq_emod_of_nonneg i (by omega)]; exact q)
theorem Zp4:OpR X (binaryOp .Mod) (rI (λ_ j=>j ≠ 0) λi j=>.int (i.fmod j)):=opI λ_ _ _ _ _ _ _ hc q=>mod_int' hc q
theorem Zuv:OpR X (binaryOp .Pow) (rI CPow λi j=>.int (i ^ j.toNat)):=opI λ_ _ _ _ _ _ _ hc q=>pow_int_small hc.1 hc.2.1 hc.2.2 q
theorem Zut:OpR X (binaryOp .RShift) (rI (λ_ j=>0<=j) λi j=>.int (i / 2 ^ j.toNat)):=opI λi j _ _ _ _ _ hc q=>
 rshift_int hc (by rw [Jb2 i (two_pow_nn _)]; exact q)
theorem unI {f:Value->Sem Value} {g:Int->Int}
  (rule:∀ (i:Int) (t:Tok) (s:Shared) (Q:Value->Shared->Prop) (E:Value->Shared->Prop),Q (.int (g i) s.toks) { s with toks:=s.toks + 1 }->wpAny (model X.prog X.w) X.A (f (.int i t)) Q E s):
  UnR X f (rU λi=>.int (g i)):=by
 intro pins s σ H x v Q I rx h;obtain ⟨i,rfl,q⟩:=h;obtain ⟨t,rfl⟩:=rx;exact rule i t s _ _ ⟨.int (g i),H,I.tok _,⟨_,rfl⟩,q⟩
theorem Zfz:UnR X (unaryOp .USub) (rU λi=>.int (-i)):=unI λ_ _ _ _ _ q=>neg_int q
end
noncomputable def scal:V->V->Bool
 | .non,.non=>true | .non,.int _=>true | .int _,.non=>true | .non,.bl _=>true | .bl _,.non=>true | .non,.str _=>true | .str _,.non=>true
 | .int _,.int _=>true | .bl _,.bl _=>true | .str _,.str _=>true | .byt _,.byt _=>true
 | .int _,.str _=>true | .str _,.int _=>true | .bl _,.str _=>true | .str _,.bl _=>true
 | _,_=>false
def rEq:R2:=λx y H Q=>scal x y = true/\Q (.bl (decide (x = y))) H
def rNe:R2:=λx y H Q=>scal x y = true/\Q (.bl (!decide (x = y))) H
theorem Zrl {i j:Int}:decide (V.int i = V.int j) = (i == j):=by
 rw [Jdd];simp
theorem Zu4 {i j:Bool}:decide (V.bl i = V.bl j) = (i == j):=by
 rw [Jdd];simp
theorem Zrk {i j:Str}:decide (V.str i = V.str j) = (i == j):=by
 rw [Jdd];simp
theorem Zrm {i j:Array UInt8}:decide (V.byt i = V.byt j) = (i.toList == j.toList):=by
 rw [Jdd];cases i;cases j;simp
section
variable {X:Cx} {a b c:Expr} {ta tb tc:TE} {pos:Pos}
theorem Zbe {pins:List (Addr × Obj)} {σ:St} {H:Hp} {s:Shared} {Q:VK} {k k':Bool} (I:Inv X pins σ H s) (q:Q (.bl k) H) (e:k = k'):EP X pins σ Q (.bool k') s:=by
 subst e;exact ⟨.bl k,H,I,rfl,q⟩
theorem Zem:OpR X (compareOp .Eq) rEq:=by
 intro pins s σ H x y v u Q I rx ry h;obtain ⟨hs,q⟩:=h;cases x with
 | non=>
  cases rx;cases y with
  | non=>cases ry; exact PySem.EqNone.eq_none_none (Zbe I q (by simp))
  | bl j=>cases ry; exact PySem.EqNone.eq_none_bool (Zbe I q (by simp))
  | int j=>obtain ⟨t',rfl⟩:=ry; exact PySem.EqNone.eq_none_int (Zbe I q (by simp))
  | str j=>obtain ⟨t',rfl⟩:=ry; exact PySem.EqNone.eq_none_str (Zbe I q (by simp))
  | _=>exact absurd (show false = true from hs) Jax
 | bl i=>
  cases rx;cases y with
  | non=>cases ry; exact PySem.EqNone.eq_bool_none (Zbe I q (by simp))
  | bl j=>cases ry; exact eq_bool (Zbe I q Zu4)
  | str j=>obtain ⟨t',rfl⟩:=ry; exact PySem.EqMixed.eq_bool_str (Zbe I q (by simp))
  | _=>exact absurd (show false = true from hs) Jax
 | int i=>
  obtain ⟨t,rfl⟩:=rx;cases y with
  | non=>cases ry; exact PySem.EqNone.eq_int_none (Zbe I q (by simp))
  | int j=>obtain ⟨t',rfl⟩:=ry; exact eq_int (Zbe I q Zrl)
  | str j=>obtain ⟨t',rfl⟩:=ry; exact PySem.EqMixed.eq_int_str (Zbe I q (by simp))
  | _=>exact absurd (show false = true from hs) Jax
 | str i=>
  obtain ⟨t,rfl⟩:=rx;cases y with
  | non=>cases ry; exact PySem.EqNone.eq_str_none (Zbe I q (by simp))
  | bl j=>cases ry; exact PySem.EqMixed.eq_str_bool (Zbe I q (by simp))
  | int j=>obtain ⟨t',rfl⟩:=ry; exact PySem.EqMixed.eq_str_int (Zbe I q (by simp))
  | str j=>obtain ⟨t',rfl⟩:=ry; exact eq_str (Zbe I q Zrk)
  | _=>exact absurd (show false = true from hs) Jax
 | byt i=>
  obtain ⟨t,rfl⟩:=rx;cases y with
  | byt j=>obtain ⟨t',rfl⟩:=ry; exact PySem.W.eq_bytes (Zbe I q Zrm)
  | _=>exact absurd (show false = true from hs) Jax
 | _=>cases y <;> exact absurd (show false = true from hs) Jax
theorem Zgn:OpR X (compareOp .NotEq) rNe:=by
 intro pins s σ H x y v u Q I rx ry h;obtain ⟨hs,q⟩:=h;cases x with
 | non=>
  cases rx;cases y with
  | non=>cases ry; exact PySem.EqNone.ne_none_none (Zbe I q (by simp))
  | bl j=>cases ry; exact PySem.EqNone.ne_none_bool (Zbe I q (by simp))
  | int j=>obtain ⟨t',rfl⟩:=ry; exact PySem.EqNone.ne_none_int (Zbe I q (by simp))
  | str j=>obtain ⟨t',rfl⟩:=ry; exact PySem.EqNone.ne_none_str (Zbe I q (by simp))
  | _=>exact absurd (show false = true from hs) Jax
 | bl i=>
  cases rx;cases y with
  | non=>cases ry; exact PySem.EqNone.ne_bool_none (Zbe I q (by simp))
  | bl j=>cases ry; exact ne_bool (Zbe I q (Jdz not Zu4))
  | str j=>obtain ⟨t',rfl⟩:=ry; exact PySem.EqMixed.ne_bool_str (Zbe I q (by simp))
  | _=>exact absurd (show false = true from hs) Jax
 | int i=>
  obtain ⟨t,rfl⟩:=rx;cases y with
  | non=>cases ry; exact PySem.EqNone.ne_int_none (Zbe I q (by simp))
  | int j=>obtain ⟨t',rfl⟩:=ry; exact ne_int (Zbe I q (Jdz not Zrl))
  | str j=>obtain ⟨t',rfl⟩:=ry; exact PySem.EqMixed.ne_int_str (Zbe I q (by simp))
  | _=>exact absurd (show false = true from hs) Jax
 | str i=>
  obtain ⟨t,rfl⟩:=rx;cases y with
  | non=>cases ry; exact PySem.EqNone.ne_str_none (Zbe I q (by simp))
  | bl j=>cases ry; exact PySem.EqMixed.ne_str_bool (Zbe I q (by simp))
  | int j=>obtain ⟨t',rfl⟩:=ry; exact PySem.EqMixed.ne_str_int (Zbe I q (by simp))
  | str j=>obtain ⟨t',rfl⟩:=ry; exact ne_str (Zbe I q (Jdz not Zrk))
  | _=>exact absurd (show false = true from hs) Jax
 | byt i=>
  obtain ⟨t,rfl⟩:=rx;cases y with
  | byt j=>obtain ⟨t',rfl⟩:=ry; exact PySem.W.ne_bytes (Zbe I q (Jdz not Zrm))
  | _=>exact absurd (show false = true from hs) Jax
 | _=>cases y <;> exact absurd (show false = true from hs) Jax
theorem Zi3:OpR X (compareOp .Lt) (rI0 λi j=>.bl (decide (i < j))):=opB0 λ_ _ _ _ _ _ _ q=>lt_int q
theorem op_le:OpR X (compareOp .LtE) (rI0 λi j=>.bl (decide (i<=j))):=opB0 λ_ _ _ _ _ _ _ q=>le_int q
theorem Ze4:OpR X (compareOp .Gt) (rI0 λi j=>.bl (decide (j < i))):=opB0 λ_ _ _ _ _ _ _ q=>gt_int q
theorem op_ge:OpR X (compareOp .GtE) (rI0 λi j=>.bl (decide (j<=i))):=opB0 λ_ _ _ _ _ _ _ q=>ge_int q
theorem Zno:OpR X (compareOp .Is) (λx y H Q=>y = .non/\Q (.bl (decide (x = .non))) H):=by
 intro pins s σ H x y v u Q I rx ry h;obtain ⟨rfl,q⟩:=h;cases ry;refine is_none_gen (Zbe I q ?_);cases x <;> first
  | (cases rx; rfl)
  | (obtain ⟨t,rfl⟩:=rx; rfl)
theorem op_notN:OpR X (compareOp .IsNot) (λx y H Q=>y = .non/\Q (.bl (!decide (x = .non))) H):=by
 intro pins s σ H x y v u Q I rx ry h;obtain ⟨rfl,q⟩:=h;cases ry;refine isnot_none_gen (Zbe I q ?_);cases x <;> first
  | (cases rx; rfl)
  | (obtain ⟨t,rfl⟩:=rx; rfl)
theorem OpR.or {f:Value->Value->Sem Value} {r r':R2} (h:OpR X f r) (h':OpR X f r'):OpR X f (λx y H Q=>r x y H Q\/r' x y H Q):=by
 intro pins s σ H x y v u Q I rx ry q;rcases q with q | q
 .exact h pins s σ H x y v u Q I rx ry q
 .exact h' pins s σ H x y v u Q I rx ry q
theorem Zan (b:Expr) {op:CmpOp} (h:op ≠ .In:=by decide) (h2:op ≠ .NotIn:=by decide):behindInMarks op b = false:=by
 have e1:(op == CmpOp.In) = false:=by cases op <;> first | rfl | exact absurd rfl h
 have e2:(op == CmpOp.NotIn) = false:=by cases op <;> first | rfl | exact absurd rfl h2
 cases b <;> simp [behindInMarks,e1,e2]
theorem Zcs {op:CmpOp} {r:R2} (ho:OpR X (compareOp op) r) (ha:PE X a ta) (hb:PE X b tb) (hm:behindInMarks op b = false):PE X (.Compare a [op] [b] pos) (tOp r ta tb):=by
 intro pins s σ H Q I h;exact wpAny_Compare1 (binT ha hb I h λv u s2 x y H2 I2 rx ry q=>ho pins s2 σ H2 x y v u Q I2 rx ry q) hm
def tTest (t:TE):TT:=λσ H Q=>t σ H λx H'=>∃ k,x = .bl k/\Q k H'
theorem Zai {op:CmpOp} {r:R2} (ho:OpR X (compareOp op) r) (ha:PE X a ta) (hb:PE X b tb) (hm:behindInMarks op b = false):PT X (.Compare a [op] [b] pos) (tTest (tOp r ta tb)):=by
 intro pins s σ H Q I h;refine wpAny_isTrue_Compare1 (thn (ha pins s σ H _ I h) λv s1 ⟨x,H1,I1,r1,q1⟩=>thn (hb pins s1 σ H1 _ I1 q1) λu s2 ⟨y,H2,I2,r2,q2⟩=>
  thn (ho pins s2 σ H2 x y v u _ I2 r1 r2 q2) λc s3 ⟨z,H3,I3,r3,k,e,q3⟩=>?_) hm
 subst e;cases r3;exact Jb9 ⟨H3,I3,q3⟩
def Zul (r r':R2) (ta tb tc:TE):TE:=λσ H Q=>ta σ H λx H1=>tb σ H1 λy H2=>r x y H2 λz H3=>∃ k,z = .bl k /\
 (if k = true then tc σ H3 λw' H4=>r' y w' H4 Q else Q (.bl false) H3)
theorem Zsv {op op':CmpOp} {r r':R2} (ho:OpR X (compareOp op) r) (ho':OpR X (compareOp op') r') (ha:PE X a ta) (hb:PE X b tb) (hc:PE X c tc)
  (hm:lastMarks [op,op'] [b,c] = false:=by with_unfolding_all rfl):PT X (.Compare a [op,op'] [b,c] pos) (tTest (Zul r r' ta tb tc)):=by
 intro pins s σ H Q I h;refine isTrue_chain (thn (ha pins s σ H _ I h) λv s1 ⟨x,H1,I1,r1,q1⟩=>test_link (thn (hb pins s1 σ H1 _ I1 q1) λu s2 ⟨y,H2,I2,r2,q2⟩=>
  thn (ho pins s2 σ H2 x y v u _ I2 r1 r2 q2) λd s3 ⟨z,H3,I3,r3,k,e,q3⟩=>?_)) hm
 subst e;cases r3;refine Jb9 ?_;cases k with
 | false=>
  obtain ⟨k',e',q'⟩:=q3;cases e';exact ite_ff ⟨H3,I3,q'⟩
 | true=>
  refine ite_tt (test_last (thn (hc pins s3 σ H3 _ I3 q3) λw' s4 ⟨z',H4,I4,r4,q4⟩=>thn (ho' pins s4 σ H4 y z' u w' _ I4 r2 r4 q4) λd' s5 ⟨z2,H5,I5,r5,k2,e2,q5⟩=>?_));subst e2;cases r5;exact Jb9 ⟨H5,I5,q5⟩
theorem Znr:(sizeLine:Nat) < 2 ^ 63:=by rw [sizeLine_eq]; decide
theorem Zkr {x:V} {us:List Value} (r:Vals [x] us):∃ u,us = [u]/\RelV x u:=by
 cases r with
 | cons r1 r2=>cases r2; exact ⟨_,rfl,r1⟩
theorem vals2 {x y:V} {us:List Value} (r:Vals [x,y] us):∃ u w',us = [u,w']/\RelV x u/\RelV y w':=by
 cases r with
 | cons r1 r2=>
  cases r2 with
  | cons r3 r4=>cases r4; exact ⟨_,_,rfl,r1,r3⟩
theorem Zd7:Zgu X (.builtin "abs") (λxs H Q=>∃ i,xs = [.int i]/\Q (.int (if i < 0 then -i else i)) H):=by
 intro pins s σ H xs us Q I r h;obtain ⟨i,rfl,q⟩:=h;obtain ⟨u,rfl,t,rfl⟩:=Zkr r;exact call_abs_int λu tk=>⟨.int (if i < 0 then -i else i),H,I.tok _,⟨_,rfl⟩,q⟩
theorem Ziu (hc:X.calm = true):Zgu X (.builtin "min") (λxs H Q=>∃ i j,xs = [.int i,.int j]/\Q (.int (if j < i then j else i)) H):=by
 intro pins s σ H xs us Q I r h;obtain ⟨i,j,rfl,q⟩:=h;obtain ⟨u,w',rfl,⟨t,rfl⟩,⟨t',rfl⟩⟩:=vals2 r;refine min_two_ints (I.ok.hd hc) λh' tk k=>⟨_,H,I.kept k,?_,q⟩
 by_cases hj:j < i
 .rw [if_pos hj,if_pos hj]; exact ⟨_,rfl⟩
 .rw [if_neg hj,if_neg hj]; exact ⟨_,rfl⟩
theorem Ziv:Zgu X (.type "int") (λxs H Q=>(∃ i,xs = [.int i]/\Q (.int i) H)\/∃ k,xs = [.bl k]/\Q (.int (if k then 1 else 0)) H):=by
 intro pins s σ H xs us Q I r h;rcases h with ⟨i,rfl,q⟩ | ⟨k,rfl,q⟩
 .obtain ⟨u,rfl,t,rfl⟩:=Zkr r;exact call_int_int ⟨.int i,H,I,⟨_,rfl⟩,q⟩
 .obtain ⟨u,rfl,r1⟩:=Zkr r;cases r1;exact call_int_bool ⟨.int (if k then 1 else 0),H,I.tok _,⟨_,rfl⟩,q⟩
end
structure ObjM (h:Heap) (x dx C:Addr) (mA:Str->Option Value):Prop where
 obj:h.get? x = some (PySem.W.instObj C dx)
 ns:h.Ns1 dx mA
 ne:dx ≠ x
theorem Zqu {h:Heap} {dx:Addr} {mA:Str->Option Value} (n:h.Ns1 dx mA):∃ od,h.get? dx = some od/\∀ name,PySem.W.lookIn name od = some (mA name):=by
 obtain ⟨o,es,ep,ho,hd,hk,_,hm⟩:=n;refine ⟨o,ho,λname=>?_⟩;have e:=hm name;unfold nsFind findBy at e;rw [<- Array.find?_toList] at e;unfold PySem.W.lookIn;rw [hd];dsimp only;split
 .rename_i y q
  rw [q] at e;exact Jdz some e
 .rename_i q
  rw [q] at e;have a:es.toList.any (·.refKey) = false:=by
   rw [List.any_eq_false];intro y hy;obtain ⟨z,t,hkey⟩:=hk y (Array.mem_toList_iff.mp hy);simp [DictEntry.refKey,hkey]
  have a':¬ es.toList.any (·.refKey) = true:=by rw [a]; exact Jax
  rw [if_neg a'];exact Jdz some e
theorem ObjM.look {h:Heap} {x dx C:Addr} {mA:Str->Option Value} (I:ObjM h x dx C mA):∃ od,PySem.W.InstAt h x (PySem.W.instObj C dx) C (some od)/\∀ name,PySem.W.lookIn name od = some (mA name):=
 let ⟨od,ho,hl⟩:=Zqu I.ns
 ⟨od,⟨I.obj,rfl,rfl,ho⟩,hl⟩
section
variable {prog:Program} {w:World} {A:Around} {E:Value->Shared->Prop} {s:Shared} {K:PySem.W.Frag} {x dx C f:Addr} {mA:Str->Option Value} {name:Str} {v:Value}
theorem get_map {expr:Bool} {Q:Value->Shared->Prop} (X:K.In s.heap) (I:ObjM s.heap x dx C mA) (hg:PySem.W.plainGet K C name = true) (hh:PySem.W.hasDictIn K C = true)
  (ha:PySem.W.findIn K (.ref C) name = some none) (hv:mA name = some v) (hv':PySem.W.handedIn v = true) (h:Q v { s with toks:=s.toks + 1 }):
  wpAny (model prog w) A (getAttr (.ref x) name expr) Q E s:=by
 obtain ⟨od,J,hl⟩:=I.look;exact PySem.W.get_value X J (Jet hg).1 (PySem.W.findObj_own hh ha rfl (by rw [hl,hv])) hv' h
theorem Ztx {pl:Sem Bool} {Q:Value × List Value->Shared->Prop} (X:K.In s.heap) (I:ObjM s.heap x dx C mA) (hg:PySem.W.plainGet K C name = true)
  (hf:PySem.W.findIn K (.ref C) name = some (some (.ref f))) (ht:PySem.W.isFn K (.ref f) = true) (hv:mA name = none) (h:Q (.ref f,[.ref x]) s):
  wpAny (model prog w) A (getMethod (.ref x) name pl) Q E s:=by
 obtain ⟨od,J,hl⟩:=I.look;exact PySem.W.method_fn X J (Jet hg).1 (Jet hg).2 hf (Jbx.mp ht) (by show (PySem.W.lookIn name od).map (·.isSome) = some false; rw [hl,hv]; rfl) h
theorem set_map {ns:List Str} {Q:Unit->Shared->Prop} (X:K.In s.heap) (I:ObjM s.heap x dx C mA)
  (hs:PySem.W.findIn K (.ref C) "__setattr__" = some (some (.builtin "object.__setattr__"))) (hp:PySem.W.plainOver K C = true) (ht:PySem.W.takerIn K C name = some none) (hh:PySem.W.hasDictIn K C = true)
  (hw:PySem.Within mA ns) (hsz:ns.length<=sizeLine)
  (h:∀ h',ObjM h' x dx C (λy=>if y = name then some v else mA y)->Heap.SameBut dx s.heap h'->Q () { s with heap:=h',toks:=s.toks + 2 }):
  wpAny (model prog w) A (setAttr (.ref x) name v) Q E s:=by
 obtain ⟨od,J,hl⟩:=I.look;refine PySem.W.set_plain X J hs (PySem.W.osa_open (s:={ s with toks:=s.toks + 1 }) (r:=none) X J hp ht λb=>?_);obtain ⟨cd,hc,hd'⟩:=PySem.W.any_some hh;have hx:s.heap.get? x = some ⟨.ref C,some dx,.plain,#[]⟩:=I.obj;refine Jaf (Jan (Jaf (Jaf (wpAny_loadPart hx (Jaf (PySem.W.Looks.here (s:={ s with toks:=s.toks + 1 }) (PySem.W.looks_clsIn X hc) ?_))))));rw [hd'];refine Jan (a:=some dx) (Jaf (Jan (Jaf ?_)));refine wpAny_nsSet1 (s:={ s with toks:=s.toks + 1 }) I.ns λh' hn2 hs2=>?_;obtain ⟨oD,esD,epD,hoD,hdD,hcD⟩:=hn2.count (PySem.Within.cons name v hw);refine Jaf (wpAny_lookBehind hoD (by rw [hdD]; exact pastItsLine_dict (Jat hcD (by rw [Jci]; omega))) ?_);exact Jan (h _ ⟨(hs2.2 _ (Jcg I.ne)).trans I.obj,hn2,I.ne⟩ hs2)
theorem Ztr {R:Result->Shared->Prop} {vs:List Value} {kw:List (Str × Value)} (X:K.In s.heap) (hm:PySem.W.makesIn K C = true)
  (hi:PySem.W.findIn K (.ref C) "__init__" = some (some (.ref f))) (hf:PySem.W.typeIn K (.ref f) = some (.type "function"))
  (h:codeAny (model prog w) (A.under (.builtin "type.__call__" ⟨.ref C :: vs,kw⟩)) (.call (.ref f) ⟨.ref (s.heap.objs.size + 1) :: vs,kw⟩) (PySem.W.InitBack (s.heap.objs.size + 1) R)
   { s with heap:=(s.heap.push PySem.W.emptyDict).push (PySem.W.instObj C s.heap.objs.size) }):
  codeAny (model prog w) A (.call (.ref C) ⟨vs,kw⟩) R s:=by
 obtain ⟨hh,g,d,t,os⟩:=s;exact PySem.W.make_core (PySem.W.makes_of X hm) (PySem.W.looks_findIn X hi) (λself=>PySem.W.bind_fn X self hf) (.inl rfl) h
end
def Zk6 (f:Str) (v:V):List (Str × V)->List (Str × V)
 | []=>[(f,v)]
 | (g,x) :: r=>if g = f then (g,v) :: r else (g,x) :: Zk6 f v r
theorem Zeu (f g:Str) (v:V):∀ fs:List (Str × V),(Zk6 f v fs).lookup g = if g = f then some v else fs.lookup g
 | []=>by
  show List.lookup g [(f,v)] = _;by_cases h:g = f
  .have hb:(g == f) = true:=Jbx.mpr h;simp only [List.lookup,hb,if_pos h]
  .have hb:(g == f) = false:=Jdk.mpr h;simp only [List.lookup,hb,if_neg h]
 | (k,x) :: r=>by
  have ih:=Zeu f g v r;rw [show Zk6 f v ((k,x) :: r) = (if k = f then (k,v) :: r else (k,x) :: Zk6 f v r) from rfl];by_cases hk:k = f
  .rw [if_pos hk];by_cases h:g = k
   .have hb:(g == k) = true:=Jbx.mpr h;simp only [List.lookup,hb,if_pos (h.trans hk)]
   .have hb:(g == k) = false:=Jdk.mpr h;simp only [List.lookup,hb,if_neg (λe:g = f=>h (e.trans hk.symm))]
  .rw [if_neg hk];by_cases h:g = k
   .have hb:(g == k) = true:=Jbx.mpr h;simp only [List.lookup,hb,if_neg (λe:g = f=>hk (h.symm.trans e))]
   .have hb:(g == k) = false:=Jdk.mpr h;simp only [List.lookup,hb];exact ih
theorem Ziq (f:Str) (v:V):∀ fs:List (Str × V),f ∈ (Zk6 f v fs).map (·.1)/\∀ g,g ∈ fs.map (·.1)->g ∈ (Zk6 f v fs).map (·.1)
 | []=>⟨by simp [Zk6],λg h=>by simp at h⟩
 | (k,x) :: r=>by
  obtain ⟨i1,i2⟩:=Ziq f v r;rw [show Zk6 f v ((k,x) :: r) = (if k = f then (k,v) :: r else (k,x) :: Zk6 f v r) from rfl];by_cases hk:k = f
  .rw [if_pos hk];subst hk;exact ⟨by simp,λg h=>by simpa using h⟩
  .rw [if_neg hk];refine ⟨?_,λg h=>?_⟩
   .rw [List.map_cons];exact Jcc _ i1
   .rw [List.map_cons] at h ⊢;rcases Jb8.mp h with e | e
    .exact Jb8.mpr (.inl e)
    .exact Jcc _ (i2 g e)
theorem Zip (f:Str) (v:V):∀ fs:List (Str × V),(Zk6 f v fs).length<=fs.length + 1
 | []=>by simp [Zk6]
 | (k,x) :: r=>by
  have ih:=Zip f v r;rw [show Zk6 f v ((k,x) :: r) = (if k = f then (k,v) :: r else (k,x) :: Zk6 f v r) from rfl];by_cases hk:k = f
  .rw [if_pos hk,Jci,Jci]; omega
  .rw [if_neg hk,Jci,Jci]; omega
theorem RelO.some_of {v:V} {o:Option Value} (r:RelO (some v) o):∃ u,o = some u/\RelV v u:=by
 cases o with
 | none=>exact (show False from r).elim
 | some u=>exact ⟨u,rfl,r⟩
theorem RelO.none_of {o:Option Value} (r:RelO none o):o = none:=by
 cases o with
 | none=>rfl
 | some u=>exact (show False from r).elim
theorem Zrd {v:V} {u:Value} (r:RelV v u):PySem.W.handedIn u = true:=by
 cases v with
 | non=>cases (show u = Value.none from r); rfl
 | bl b=>cases (show u = Value.bool b from r); rfl
 | int i=>obtain ⟨t,e⟩:=(show ∃ t,u = Value.int i t from r); cases e; rfl
 | str x=>obtain ⟨t,e⟩:=(show ∃ t,u = Value.str x t from r); cases e; rfl
 | byt b=>obtain ⟨t,e⟩:=(show ∃ t,u = Value.bytes b t from r); cases e; rfl
 | flt b=>obtain ⟨t,e⟩:=(show ∃ t,u = Value.float b t from r); cases e; rfl
 | ref a=>cases (show u = Value.ref a from r); rfl
 | ty n=>cases (show u = Value.type n from r); rfl
section
variable {P:Program} {w:World} {H H':Hp} {h h':Heap} {a C dx:Addr} {fs fs':List (Str × V)}
theorem Zkc (hok:HOk P w H h) (e:H a = some (.ins C dx fs)):∃ mA,ObjM h a dx C mA/\(∀ f,RelO (fs.lookup f) (mA f))/\PySem.Within mA (fs.map (·.1))/\fs.length<=1000/\H dx = some (.own a):=by
 obtain ⟨d,z,ne,ob,mA,n,r,q⟩:=(show ObjOk P w H h a (.ins C dx fs) from hok a _ e)
 exact ⟨mA,⟨ob,n,ne⟩,r,q,z,d⟩
end
structure Cls (K:PySem.W.Frag) (C:Addr):Prop where
 pg:PySem.W.plainGet K C Str.empty = true
 hd:PySem.W.hasDictIn K C = true
 po:PySem.W.plainOver K C = true
 sa:PySem.W.findIn K (.ref C) "__setattr__" = some (some (.builtin "object.__setattr__"))
theorem Cls.get {K:PySem.W.Frag} {C:Addr} (c:Cls K C) (f:Str):PySem.W.plainGet K C f = true:=c.pg
def NoAttr (K:PySem.W.Frag) (C:Addr) (f:Str):Prop:=PySem.W.findIn K (.ref C) f = some none
theorem NoAttr.taker {K:PySem.W.Frag} {C:Addr} {f:Str} (n:NoAttr K C f):PySem.W.takerIn K C f = some none:=by
 unfold PySem.W.takerIn;rw [show PySem.W.findIn K (.ref C) f = some none from n];rfl
structure Con (K:PySem.W.Frag) (C:Addr) (f:Str) (v:V) (u:Value):Prop where
 at_:PySem.W.findIn K (.ref C) f = some (some u)
 rel:RelV v u
 get:PySem.W.specialIn K u "__get__" = some none
 cp:PySem.W.copiedNames.contains f = false
structure Meth (K:PySem.W.Frag) (C:Addr) (m:Str) (f:Addr):Prop where
 at_:PySem.W.findIn K (.ref C) m = some (some (.ref f))
 fn:PySem.W.isFn K (.ref f) = true
 kp:PySem.W.keepIn K (.ref f) = true
section
variable {X:Cx} {pins:List (Addr × Obj)} {σ:St} {H:Hp} {s:Shared} {a C dx:Addr} {fs:List (Str × V)} {f:Str} {v:V} {A:Around} {E:Value->Shared->Prop}
theorem Zou {b:Bool} {Q:Value->Shared->Prop} (I:Inv X pins σ H s) (e:H a = some (.ins C dx fs)) (c:Cls X.K C) (n:NoAttr X.K C f) (l:fs.lookup f = some v)
  (h:∀ u s',Inv X pins σ H s'->RelV v u->Q u s'):wpAny (model X.prog X.w) A (getAttr (.ref a) f b) Q E s:=by
 obtain ⟨mA,O,r,_,_,_⟩:=Zkc I.hok e;obtain ⟨u,hu,ru⟩:=RelO.some_of (v:=v) (o:=mA f) (by rw [<- l]; exact r f);exact get_map I.kIn O (c.get f) c.hd n hu (Zrd ru) (h u _ (I.tok _) ru)
theorem Zjv {m:Str} {g:Addr} {pl:Sem Bool} {Q:Value × List Value->Shared->Prop} (I:Inv X pins σ H s) (e:H a = some (.ins C dx fs)) (c:Cls X.K C) (k:Meth X.K C m g) (l:fs.lookup m = none)
  (h:Q (.ref g,[.ref a]) s):wpAny (model X.prog X.w) A (getMethod (.ref a) m pl) Q E s:=by
 obtain ⟨mA,O,r,_,_,_⟩:=Zkc I.hok e;have hn:mA m = none:=RelO.none_of (by rw [<- l]; exact r m);exact Ztx I.kIn O (c.get m) k.at_ k.fn hn h
theorem Zok {y:V} {u:Value} {Q:Unit->Shared->Prop} (I:Inv X pins σ H s) (e:H a = some (.ins C dx fs)) (c:Cls X.K C) (n:NoAttr X.K C f) (hl:fs.length < 1000) (ry:RelV y u)
  (h:∀ s',Inv X pins σ (upd H a (.ins C dx (Zk6 f y fs))) s'->Q () s'):wpAny (model X.prog X.w) A (setAttr (.ref a) f u) Q E s:=by
 obtain ⟨mA,O,r,wi,_,ho⟩:=Zkc I.hok e;have hz:(fs.map (·.1)).length<=sizeLine:=by rw [Jab,sizeLine_eq]; omega
 refine set_map I.kIn O c.sa c.po n.taker c.hd wi hz λh' O' sb=>h _ ?_;have hd:∃ o,h'.get? dx = some o:=let ⟨o,_,_,e',_⟩:=O'.ns; ⟨o,e'⟩;refine I.write (x:=a) (e:=dx) (by rw [e]; exact True.intro) (.inr ho) (λb q hb z=>(sb.2 b hb).trans z) hd ?_;refine ⟨by rw [Zal O.ne]; exact ho,?_,O.ne,O'.obj,_,O'.ns,λg=>?_,λg hg=>?_⟩
 .have:=Zip f y fs; omega
 .show RelO ((Zk6 f y fs).lookup g) (if g = f then some u else mA g);rw [Zeu];by_cases q:g = f
  .rw [if_pos q,if_pos q]; exact ry
  .rw [if_neg q,if_neg q]; exact r g
 .by_cases q:g = f
  .rw [q]; exact (Ziq f y fs).1
  .refine (Ziq f y fs).2 g (wi g λz=>hg ?_);show (if g = f then some u else mA g) = none;rw [if_neg q]; exact z
theorem Inv.made (I:Inv X pins σ H s):Inv X pins σ (upd (upd H s.heap.objs.size (.own (s.heap.objs.size + 1))) (s.heap.objs.size + 1) (.ins C s.heap.objs.size []))
  { s with heap:=(s.heap.push PySem.W.emptyDict).push (PySem.W.instObj C s.heap.objs.size) }:=by
 have e1:(s.heap.push PySem.W.emptyDict).get? s.heap.objs.size = some PySem.W.emptyDict:=Ja5 s.heap rfl;have e2:((s.heap.push PySem.W.emptyDict).push (PySem.W.instObj C s.heap.objs.size)).get? (s.heap.objs.size + 1) = some (PySem.W.instObj C s.heap.objs.size):=by
  have:=Ja5 (s.heap.push PySem.W.emptyDict) (o:=PySem.W.instObj C s.heap.objs.size) rfl;rwa [Jcz] at this
 have e3:(s.heap.push PySem.W.emptyDict).Ns s.heap.objs.size (λ_=>none):=⟨PySem.W.emptyDict,#[],_,e1,rfl,(λe he=>absurd he (by simp)),λ_=>rfl⟩
 have I1:=I.laid (a:=s.heap.objs.size) (o:=.own (s.heap.objs.size + 1)) (h':=s.heap.push PySem.W.emptyDict) (t':=s.toks) (λb u q=>Jai _ q) (Jag _) ⟨_,e1⟩;refine I1.laid (a:=s.heap.objs.size + 1) (o:=.ins C s.heap.objs.size []) (t':=s.toks) (λb u q=>Jai _ q) (Nat.le_of_eq (Jcz _ _)) ?_;have ne:s.heap.objs.size ≠ s.heap.objs.size + 1:=Ja6 (Jel _);refine ⟨by rw [Zal ne,Zab],Jb3 _,ne,e2,λ_=>none,(Heap.Ns1.of_empty e3).at λo q=>Jai _ q,λ_=>True.intro,λy hy=>absurd rfl hy⟩
theorem attr_of {prog:Program} {w:World} {env:Env} {e:Expr} {f:Str} {pos:Pos} {s:Shared} {Q:Value->Shared->Prop} (hb:attributeBase e f env (eval e env) = eval e env)
  (h:wpAny (model prog w) A (eval e env) (λo s₁=>wpAny (model prog w) A (getAttr o f true) Q E s₁) E s):wpAny (model prog w) A (eval (.Attribute e f pos) env) Q E s:=
 Attribute_any_ h (by rw [arm_eval_Attribute,hb])
end
def tFld (K:PySem.W.Frag) (ta:TE) (f:Str):TE:=λσ H Q=>ta σ H λx H1=>∃ a C dx fs v,x = .ref a/\H1 a = some (.ins C dx fs)/\Cls K C/\NoAttr K C f/\fs.lookup f = some v/\Q v H1
def sFld (K:PySem.W.Frag) (ta tv:TE) (f:Str):TS:=λD σ H=>tv σ H λy H1=>ta σ H1 λx H2=>∃ a C dx fs,x = .ref a/\H2 a = some (.ins C dx fs)/\Cls K C/\NoAttr K C f/\fs.length < 1000 /\
 D.nx σ (upd H2 a (.ins C dx (Zk6 f y fs)))
section
variable {X:Cx} {o e value:Expr} {f:Str} {pos pos' tpos:Pos} {ta tv:TE}
theorem Zlb (he:PE X e ta) (hb:attributeBase e f X.env (eval e X.env) = eval e X.env):PE X (.Attribute e f pos) (tFld X.K ta f):=by
 intro pins s σ H Q I h;refine attr_of hb (thn (he pins s σ H _ I h) λu s1 ⟨x,H1,I1,rx,a,C,dx,fs,v,ex,ea,c,n,l,q⟩=>?_);subst ex;obtain rfl:u = Value.ref a:=rx;exact Zou I1 ea c n l λu' s2 I2 ru=>⟨v,H1,I2,ru,q⟩
theorem ps_fld (ha:PE X o ta) (hv:PE X value tv) (hs:swapsWith value (some (.Attribute o f pos')) pos.line X.env = pure false):PS X (.Assign [.Attribute o f pos'] value pos) (sFld X.K ta tv f):=by
 intro pins s σ H D I h;refine plainObj_wpAny_Assign_Attribute (thn (hv pins s σ H _ I h) λu s1 ⟨y,H1,I1,ry,q⟩=>thn (ha pins s1 σ H1 _ I1 q) λov s2 ⟨x,H2,I2,rx,a,C,dx,fs,ex,ea,c,n,l,q2⟩=>?_) hs;subst ex;obtain rfl:ov = Value.ref a:=rx;exact Zok I2 ea c n l ry λs3 I3=>⟨σ,_,I3,q2⟩
theorem methcall_of {pl:Sem Bool} {m:Str} {apos:Pos} {args:List Expr} {pins:List (Addr × Obj)} {s:Shared} {σ:St} {H:Hp} {Q:Value->Shared->Prop} {te:TE} (he:PE X e te) (I:Inv X pins σ H s)
  (h:te σ H λx H1=>∃ a C dx fs g,x = .ref a/\H1 a = some (.ins C dx fs)/\Cls X.K C/\Meth X.K C m g/\fs.lookup m = none /\
   ∀ s1,Inv X pins σ H1 s1->wpAny (model X.prog X.w) X.A (callWith pos (.ref g) [.ref a] (backTo pos (starEach args X.env)) (backToKw pos (keywordEach [] X.env))) Q X.xe s1)
  (ht:eval (.Call (.Attribute e m apos) args [] pos) X.env = (do
   let ov <- eval e X.env
   standAt apos.atName
   let (f,first) <- holding [ov] (getMethod ov m pl)
   callWith pos f first (backTo pos (starEach args X.env)) (backToKw pos (keywordEach [] X.env)))):
  wpAny (model X.prog X.w) X.A (eval (.Call (.Attribute e m apos) args [] pos) X.env) Q X.xe s:=by
 refine PySem.W.methodCall_KW (pl:=pl) (thn (he pins s σ H _ I h) λu s1 ⟨x,H1,I1,rx,a,C,dx,fs,g,ex,ea,c,k,l,q⟩=>?_) ht;subst ex;obtain rfl:u = Value.ref a:=rx;exact Zjv I1 ea c k l (q s1 I1)
end
section
variable {X:Cx} {pins:List (Addr × Obj)} {σ:St} {H:Hp} {s:Shared} {A:Around} {E:Value->Shared->Prop} {Q:Value->Shared->Prop} {c:Value} {b:Bool}
inductive TyOf (K:PySem.W.Frag) (H:Hp):V->Value->Prop where
 | non:TyOf K H .non (.type "NoneType")
 | bl (x:Bool):TyOf K H (.bl x) (.type "bool")
 | int (i:Int):TyOf K H (.int i) (.type "int")
 | str (x:Str):TyOf K H (.str x) (.type "str")
 | flt (x:UInt64):TyOf K H (.flt x) (.type "float")
 | lst {a:Addr} {xs:List V} (e:H a = some (.lst xs)):TyOf K H (.ref a) (.type "list")
 | frz {a:Addr} {o:Obj} {xs:List V} (e:H a = some (.frz o (.lst xs))):TyOf K H (.ref a) (.type "list")
 | tup {a:Addr} {xs:List V} (e:H a = some (.tup xs)):TyOf K H (.ref a) (.type "tuple")
 | dK {a:Addr} {kvs:List (Key × V)} (e:H a = some (.dK kvs)):TyOf K H (.ref a) (.type "dict")
 | dT {a:Addr} {kvs:List (List Key × V)} (e:H a = some (.dT kvs)):TyOf K H (.ref a) (.type "dict")
 | ins {a C dx:Addr} {fs:List (Str × V)} (e:H a = some (.ins C dx fs)) (cl:Cls K C) (ha:PySem.W.findIn K (.ref C) "__class__" = some (some (.builtin "object.__class__")))
   (hn:PySem.W.specialIn K (.builtin "object.__class__") "__get__" = some (some (.builtin "getset_descriptor.__get__"))) (htk:PySem.W.takesIn K (.builtin "object.__class__") = some true)
   (hm:PySem.W.mroIn K C (.type "object") = some true):TyOf K H (.ref a) (.ref C)
theorem Zq5 {x:V} {u t:Value} (I:Inv X pins σ H s) (rx:RelV x u) (ty:TyOf X.K H x t) (e:PySem.W.kitOne X.K t c = some b) (h:∀ tk,Q (.bool b) { s with toks:=tk }):
  wpAny (model X.prog X.w) A (call (.builtin "isinstance") [u,c]) Q E s:=by
 cases ty with
 | non=>cases (show u = Value.none from rx); exact Jch PySem.W.kitx_none I.kIn True.intro e (λz=>nomatch z) h
 | bl y=>cases (show u = Value.bool y from rx); exact Jch PySem.W.kitx_bool I.kIn True.intro e (λz=>nomatch z) h
 | int i=>obtain ⟨t,q⟩:=(show ∃ t,u = Value.int i t from rx); cases q; exact Jch PySem.W.kitx_int I.kIn True.intro e (λz=>nomatch z) h
 | str y=>obtain ⟨t,q⟩:=(show ∃ t,u = Value.str y t from rx); cases q; exact Jch PySem.W.kitx_str I.kIn True.intro e (λz=>nomatch z) h
 | flt y=>obtain ⟨t,q⟩:=(show ∃ t,u = Value.float y t from rx); cases q; exact Jch PySem.W.kitx_float I.kIn True.intro e (λz=>nomatch z) h
 | @lst a xs ea=>
  cases (show u = Value.ref a from rx);obtain ⟨_,_,n,_,h1⟩:=(show ObjOk X.prog X.w H s.heap a (.lst xs) from I.hok a _ ea)
  exact Jch PySem.W.kitx_list I.kIn ⟨_,h1,rfl⟩ e (λz=>nomatch z) h
 | @frz a ob xs ea=>
  cases (show u = Value.ref a from rx);obtain ⟨_,_,_,n,_,h1⟩:=(show ObjOk X.prog X.w H s.heap a (.frz ob (.lst xs)) from I.hok a _ ea)
  exact Jch PySem.W.kitx_list I.kIn ⟨_,h1,rfl⟩ e (λz=>nomatch z) h
 | @tup a xs ea=>
  cases (show u = Value.ref a from rx);obtain ⟨_,_,_,p⟩:=(show ObjOk X.prog X.w H s.heap a (.tup xs) from I.hok a _ ea)
  obtain ⟨o,h1,h2,_⟩:=p;exact Jch PySem.W.kitx_tuple I.kIn ⟨o,h1,h2⟩ e (λz=>nomatch z) h
 | @dK a kvs ea=>
  cases (show u = Value.ref a from rx);obtain ⟨_,_,vs,_,p⟩:=(show ObjOk X.prog X.w H s.heap a (.dK kvs) from I.hok a _ ea)
  obtain ⟨o,es,ep,h1,h2,_⟩:=p;exact Jch PySem.W.kitx_dict I.kIn ⟨o,h1,h2.1⟩ e (λz=>nomatch z) h
 | @dT a kvs ea=>
  cases (show u = Value.ref a from rx);obtain ⟨_,_,xs,_,o,es,ep,h1,h2,_⟩:=(show ObjOk X.prog X.w H s.heap a (.dT kvs) from I.hok a _ ea)
  exact Jch PySem.W.kitx_dict I.kIn ⟨o,h1,h2.1⟩ e (λz=>nomatch z) h
 | @ins a C dx fs ea cl ha hn htk hm=>
  cases (show u = Value.ref a from rx);obtain ⟨mA,O,_⟩:=Zkc I.hok ea;obtain ⟨od,J,_⟩:=O.look;exact Jch (PySem.W.kitx_own (cl.get _) cl.hd ha hn htk hm) I.kIn J e (λz=>nomatch z) h
end
structure Room (k:Nat) (A:Around):Prop where
 hd:A.handled = none
 dp:A.depth + 3 * k + 205 < recursionLimit
 un:A.units + 16 * k + 200 < cLine
theorem Room.mono {j k:Nat} {A:Around} (r:Room k A) (h:j<=k):Room j A:=⟨r.hd,by have:=r.dp; omega,by have:=r.un; omega⟩
theorem Room.m {j k:Nat} {A:Around} (r:Room k A) (h:j<=k:=by decide):Room j A:=r.mono h
theorem Room.deeper {k:Nat} {A:Around} (r:Room (k + 1) A) (env:Env):Room k (A.deeper env):=
 ⟨r.hd,by have:=r.dp; show A.depth + 1 + 3 * k + 205 < _; omega,by have:=r.un; show A.units + 3 + 16 * k + 200 < _; omega⟩
theorem Zoq {A:Around} {C:Addr} {us:List Value} {kw:List (Str × Value)}:(A.under (.builtin "type.__call__" ⟨.ref C :: us,kw⟩)).depth = A.depth + 1:=by
 first | rfl | simp [Around.under,Code.weight,Code.isCreation,Code.isGuard,Code.isCaller,Code.frames,Code.isFrame,guardIds]
theorem Zop {A:Around} {C:Addr} {us:List Value} {kw:List (Str × Value)}:(A.under (.builtin "type.__call__" ⟨.ref C :: us,kw⟩)).units = A.units + 1:=by
 first | rfl | simp [Around.under,Code.cUnits,Code.frames,Code.isFrame]
theorem Room.make {k:Nat} {A:Around} (r:Room (k + 1) A) (C:Addr) (us:List Value) (kw:List (Str × Value)):Room k (A.under (.builtin "type.__call__" ⟨.ref C :: us,kw⟩)):=
 ⟨r.hd,by have:=r.dp; rw [Zoq]; omega,by have:=r.un; rw [Zop]; omega⟩
theorem Room.depth {k:Nat} {A:Around} (r:Room k A):A.depth < recursionLimit:=by have:=r.dp; omega
theorem Room.units {k:Nat} {A:Around} (r:Room k A):A.units + 64 < cLine:=by have:=r.un; omega
def tNil:TA:=λ_ H Q=>Q [] H
def tCons (ta:TE) (tr:TA):TA:=λσ H Q=>ta σ H λx H1=>tr σ H1 λxs H2=>Q (x :: xs) H2
section
variable {X:Cx} {e:Expr} {es:List Expr} {te:TE} {t:TA} {pos:Pos}
theorem Zaa:PA X [] tNil:=λ_ _ _ _ H Q I h=>Jfb ⟨[],H,I,.nil,h⟩
theorem pa_cons (ha:PE X e te) (hr:PA X es t) (hs:starEach (e :: es) X.env = (false,eval e X.env) :: starEach es X.env:=by rfl):PA X (e :: es) (tCons te t):=by
 intro pos pins s σ H Q I h;rw [hs];show wpAny _ _ (spliced ((false,eval e X.env) :: backTo pos (starEach es X.env))) _ _ s;refine Je0 (thn (ha pins s σ H _ I h) λu s1 ⟨x,H1,I1,r1,q1⟩=>?_);exact thn (hr pos pins s1 σ H1 _ I1 q1) λus s2 ⟨xs,H2,I2,r2,q2⟩=>⟨x :: xs,H2,I2,.cons r1 r2,q2⟩
def tTup (t:TA):TE:=λσ H Q=>t σ H λxs H1=>xs.length<=sizeLine/\∀ p,H1 p = none->Q (.ref p) (upd H1 p (.tup xs))
def tLst (t:TA):TE:=λσ H Q=>t σ H λxs H1=>xs.length<=sizeLine/\∀ p,H1 p = none->Q (.ref p) (upd H1 p (.lst xs))
theorem Za9 {x1} (h:PA X es t):PE X (.Tuple es x1 pos) (tTup t):=by
 intro pins s σ H Q I hq;refine wpAny_Tuple_spliced (thn (h pos pins s σ H _ I hq) λus s1 ⟨xs,H1,I1,r,z,q⟩=>⟨by rw [<- r.length]; exact z,?_⟩);have hf:H1 s1.heap.objs.size = none:=I1.hok.fresh (Jag _);refine ⟨.ref s1.heap.objs.size,upd H1 s1.heap.objs.size (.tup xs),I1.laid (t':=s1.toks) (λb u e=>Jai _ e) (Jag _) ?_,rfl,q _ hf⟩;exact ⟨z,us,r,⟨_,Ja5 _ rfl,rfl,_,rfl⟩⟩
theorem Zce (h:PA X es t):PE X (.List es pos) (tLst t):=by
 intro pins s σ H Q I hq;refine wpAny_List_spliced (thn (h pos pins s σ H _ I hq) λus s1 ⟨xs,H1,I1,r,z,q⟩=>⟨by rw [<- r.length]; exact z,?_⟩);have hf:H1 s1.heap.objs.size = none:=I1.hok.fresh (Jag _);refine ⟨.ref s1.heap.objs.size,upd H1 s1.heap.objs.size (.lst xs),I1.laid (t':=s1.toks) (λb u e=>Jai _ e) (Jag _) ?_,rfl,q _ hf⟩;exact ⟨z,us,0,r,Ja5 _ rfl⟩
end
abbrev Sp:=List V->Hp->VK->XK->Prop
abbrev CXT:=List Env->Hp->Shared->XK->Value->Shared->Prop
structure Env0 (P:Program) (w:World) (K:PySem.W.Frag) (mg:Str->Option Value) (base:Heap) (A:Around) (outer:List Env) (s:Shared) (H:Hp):Prop where
 frames:A.frames = some outer
 mod:Mod K mg base
 bs:∀ b o,base.get? b = some o->s.heap.get? b = some o/\H b = none
 bsz:base.objs.size<=s.heap.objs.size
 funs:s.heap.FunFrames base outer
 frf:∀ b ∈ frs outer,H b = none
 hok:HOk P w H s.heap
 bare:AllBare s.gens
def CE (outer:List Env) (P:Program) (w:World) (H:Hp) (s:Shared) (Q:VK) (u:Value) (s':Shared):Prop:=
 ∃ v H',s'.os = s.os/\AllBare s'.gens/\Un (frs outer) [] H H' s.heap s'.heap/\HOk P w H' s'.heap/\RelV v u/\Q v H'
def CR (CX:CXT) (outer:List Env) (P:Program) (w:World) (H:Hp) (s:Shared) (Q:VK) (E:XK) (r:Result) (s':Shared):Prop:=
 match r with
 | .ok (.ret u)=>CE outer P w H s Q u s'
 | .ok _=>False
 | .error e=>CX outer H s E e s'
structure FnOk (P:Program) (w:World) (K:PySem.W.Frag) (mg:Str->Option Value) (base:Heap) (CX:CXT) (k:Nat) (f:Addr) (fd:FuncData) (ps:List Str) (sp:Sp):Prop where
 len:∀ vs H Q E,sp vs H Q E->vs.length = ps.length
 run:∀ (A:Around) (outer:List Env) (s:Shared) (H:Hp) (args:Args) (us:List Value) (vs:List V) (Q:VK) (E:XK),Room k A->Env0 P w K mg base A outer s H->BindsTo s fd args (ps.zip us)->Vals vs us->sp vs H Q E->
  codeAny (model P w) A (.call (.ref f) args) (CR CX outer P w H s Q E) s
theorem FnOk.imp {P:Program} {w:World} {K:PySem.W.Frag} {mg:Str->Option Value} {base:Heap} {CX:CXT} {k:Nat} {f:Addr} {fd:FuncData} {ps:List Str} {sp sp':Sp} (F:FnOk P w K mg base CX k f fd ps sp)
  (h:∀ vs H Q E,sp' vs H Q E->sp vs H Q E):FnOk P w K mg base CX k f fd ps sp':=
 ⟨λvs H Q E q=>F.len vs H Q E (h _ _ _ _ q),λA outer s H args us vs Q E hr he hb hv hs=>F.run A outer s H args us vs Q E hr he hb hv (h _ _ _ _ hs)⟩
theorem Env0.make {P:Program} {w:World} {K:PySem.W.Frag} {mg:Str->Option Value} {base:Heap} {A:Around} {outer:List Env} {s:Shared} {H:Hp} (e:Env0 P w K mg base A outer s H) (C:Addr) (us:List Value) (kw:List (Str × Value)):
  Env0 P w K mg base (A.under (.builtin "type.__call__" ⟨.ref C :: us,kw⟩)) outer s H:=⟨by first | exact e.frames | (simpa [Around.under,Code.envs,Code.isFrame,pushEnvs] using e.frames),e.mod,e.bs,e.bsz,e.funs,e.frf,e.hok,e.bare⟩
section
variable {X:Cx} {pins:List (Addr × Obj)} {σ:St} {H:Hp} {s s':Shared}
theorem Inv.env0 (I:Inv X pins σ H s):Env0 X.prog X.w X.K X.mg X.base X.A X.stack s H:=
 ⟨I.ok.frames,I.ok.mod,I.bs,Jat I.ok.bsz I.sz,I.stack,I.stkFree,I.hok,I.bare⟩
theorem Inv.after {Q:VK} {u:Value} (I:Inv X pins σ H s) (h:CE X.stack X.prog X.w H s Q u s'):EP X pins σ Q u s':=by
 obtain ⟨v,H',os,bare,un,hok,r,q⟩:=h;obtain ⟨hh,g,d,t,os'⟩:=s';obtain rfl:os' = s.os:=os;exact ⟨v,H',I.call (h':=hh) (g':=g) (d':=d) (t':=t) (ch:=[]) un hok bare (λb z=>absurd z (by simp)),r,q⟩
end
def Zsh (sp:Sp) (dvs:List V) (E:XK) (t:TA):TE:=λσ H Q=>t σ H λvs H1=>sp (vs ++ dvs) H1 Q E
def tMeth (C:Addr) (m:Str) (sp:Sp) (dvs:List V) (E:XK) (ta:TE) (t:TA):TE:=λσ H Q=>ta σ H λx H1=>∃ a dx fs,x = .ref a/\H1 a = some (.ins C dx fs)/\fs.lookup m = none /\
 t σ H1 λvs H2=>sp (x :: (vs ++ dvs)) H2 Q E
def Zsg (C:Addr) (sp:Sp) (dvs:List V) (E:XK) (t:TA):TE:=λσ H Q=>t σ H λvs H1=>∀ x dx,H1 x = none->H1 dx = none->dx ≠ x->
 sp (.ref x :: (vs ++ dvs)) (upd (upd H1 dx (.own x)) x (.ins C dx [])) (λv H2=>v = .non/\Q (.ref x) H2) E
def Binds (K:PySem.W.Frag) (fd:FuncData) (ps:List Str) (ds:List Value):Prop:=
 ∀ (s:Shared) (us:List Value),K.In s.heap->(us ++ ds).length = ps.length->BindsTo s fd ⟨us,[]⟩ (ps.zip (us ++ ds))
theorem Binds.all {K:PySem.W.Frag} {fd:FuncData} {ps:List Str} (h:∀ us:List Value,us.length = ps.length->bindArgs fd ⟨us,[]⟩ = pure (ps.zip us)):Binds K fd ps []:=λs us _ hl=>by
 rw [List.append_nil] at hl ⊢;exact .of_eq (h us hl)
def Zjx (CX:CXT) (X:Cx) (E:XK):Prop:=∀ (pins:List (Addr × Obj)) (σ:St) (H:Hp) (s:Shared) (e:Value) (s':Shared),Inv X pins σ H s->CX X.stack H s E e s'->X.xe e s'
section
variable {X:Cx} {CX:CXT} {k:Nat} {f C:Addr} {fd:FuncData} {ps:List Str} {sp:Sp} {dvs:List V} {ds:List Value} {E:XK} {x m:Str} {p pos apos:Pos} {e o:Expr} {es:List Expr} {ta:TE} {t:TA}
theorem Zuo {pins:List (Addr × Obj)} {σ:St} {H:Hp} {s:Shared} {Q:VK} {us:List Value} {vs:List V} (F:FnOk X.prog X.w X.K X.mg X.base CX k f fd ps sp) (hr:Room k X.A) (hb:Binds X.K fd ps ds) (hd:Vals dvs ds) (hx:Zjx CX X E)
  (I:Inv X pins σ H s) (r:Vals vs us) (h:sp (vs ++ dvs) H Q E):wpAny (model X.prog X.w) X.A (call (.ref f) us) (EP X pins σ Q) X.xe s:=by
 have r2:Vals (vs ++ dvs) (us ++ ds):=r.append hd;have hl:(us ++ ds).length = ps.length:=by rw [<- r2.length]; exact F.len _ _ _ _ h
 refine wpAny_call (Je1 (F.run X.A X.stack s H ⟨us,[]⟩ (us ++ ds) (vs ++ dvs) Q E hr I.env0 (hb s us I.kIn hl) r2 h) λr s' hq=>?_);cases r with
 | error e=>exact hx pins σ H s e s' I hq
 | ok fl=>
  cases fl with
  | ret u=>exact I.after hq
  | next=>exact False.elim hq
  | brk=>exact False.elim hq
  | cont=>exact False.elim hq
theorem pe_call (F:FnOk X.prog X.w X.K X.mg X.base CX k f fd ps sp) (hr:Room k X.A) (hg:Gl X x) (hm:X.mg x = some (.ref f)) (hk:PySem.W.keepIn X.K (.ref f) = true) (hb:Binds X.K fd ps ds) (hd:Vals dvs ds) (hx:Zjx CX X E)
  (ha:PA X (e :: es) t) (hdb:(x == ("__debug__" : Str)) = false:=by decide) (he:starEach (e :: es) X.env = (false,eval e X.env) :: starEach es X.env:=by rfl) (hpl:(backTo pos (starEach es X.env)).any (·.1) = false:=by rfl):
  PE X (.Call (.Name x p) (e :: es) [] pos) (Zsh sp dvs E t):=by
 intro pins s σ H Q I h;refine Jdt (Zmz I hg hm ?_ hdb);refine Je2 (h₀:=X.base) I.ok.mod.kin hk (thn (ha pos pins s σ H _ I h) λus s1 ⟨vs,H1,I1,r,q⟩=>⟨I1.kIn,?_⟩) he hpl;exact Zuo F hr hb hd hx I1 r q
theorem pe_meth {pl:Sem Bool} (he:PE X o ta) (c:Cls X.K C) (hm:Meth X.K C m f) (F:FnOk X.prog X.w X.K X.mg X.base CX k f fd ps sp) (hr:Room k X.A) (hb:Binds X.K fd ps ds) (hd:Vals dvs ds) (hx:Zjx CX X E) (ha:PA X (e :: es) t)
  (hst:starEach (e :: es) X.env = (false,eval e X.env) :: starEach es X.env:=by rfl) (hpl:(backTo pos (starEach es X.env)).any (·.1) = false:=by rfl)
  (ht:eval (.Call (.Attribute o m apos) (e :: es) [] pos) X.env = (do
   let ov <- eval o X.env
   standAt apos.atName
   let (f,first) <- holding [ov] (getMethod ov m pl)
   callWith pos f first (backTo pos (starEach (e :: es) X.env)) (backToKw pos (keywordEach [] X.env))):=by rfl):
  PE X (.Call (.Attribute o m apos) (e :: es) [] pos) (tMeth C m sp dvs E ta t):=by
 intro pins s σ H Q I h;refine PySem.W.methodCall_KW (pl:=pl) (thn (he pins s σ H _ I h) λu s1 ⟨x,H1,I1,rx,a,dx,fs,ex,ea,l,q⟩=>?_) ht;subst ex;obtain rfl:u = Value.ref a:=rx;refine Zjv I1 ea c hm l ?_;refine Je2 (first:=[.ref a]) (h₀:=X.base) I.ok.mod.kin hm.kp (thn (ha pos pins s1 σ H1 _ I1 q) λus s2 ⟨vs,H2,I2,r,q2⟩=>⟨I2.kIn,?_⟩) hst hpl;exact Zuo (us:=.ref a :: us) (vs:=.ref a :: vs) F hr hb hd hx I2 (.cons rfl r) q2
structure Mk (K:PySem.W.Frag) (C f:Addr):Prop where
 makes:PySem.W.makesIn K C = true
 init:PySem.W.findIn K (.ref C) "__init__" = some (some (.ref f))
 fn:PySem.W.isFn K (.ref f) = true
 kp:PySem.W.keepIn K (.ref C) = true
theorem Zsr {pins:List (Addr × Obj)} {σ:St} {H:Hp} {s:Shared} {Q:VK} {us:List Value} {vs:List V} (M:Mk X.K C f) (F:FnOk X.prog X.w X.K X.mg X.base CX k f fd ps sp) (hr:Room (k + 1) X.A) (hb:Binds X.K fd ps ds) (hd:Vals dvs ds)
  (hx:Zjx CX X E) (I:Inv X pins σ H s) (r:Vals vs us)
  (h:∀ x dx,H x = none->H dx = none->dx ≠ x->sp (.ref x :: (vs ++ dvs)) (upd (upd H dx (.own x)) x (.ins C dx [])) (λv H2=>v = .non/\Q (.ref x) H2) E):
  wpAny (model X.prog X.w) X.A (call (.ref C) us) (EP X pins σ Q) X.xe s:=by
 have hq:=h (s.heap.objs.size + 1) s.heap.objs.size (I.hok.fresh (Jfg _)) (I.hok.fresh (Jag _)) (Ja6 (Jel _));have I2:=Inv.made (C:=C) I;have r2:Vals (V.ref (s.heap.objs.size + 1) :: (vs ++ dvs)) (Value.ref (s.heap.objs.size + 1) :: (us ++ ds)):=.cons rfl (r.append hd);have hl:(Value.ref (s.heap.objs.size + 1) :: us ++ ds).length = ps.length:=by
  have e:=r2.length;rw [F.len _ _ _ _ hq] at e;exact e.symm
 refine wpAny_call (Ztr (f:=f) I.kIn M.makes M.init (Jbx.mp M.fn) (Je1 (F.run _ X.stack _ _ ⟨Value.ref (s.heap.objs.size + 1) :: us,[]⟩ (Value.ref (s.heap.objs.size + 1) :: (us ++ ds)) _ _ E (hr.make C us [])
  (I2.env0.make C us []) (hb _ (Value.ref (s.heap.objs.size + 1) :: us) I2.kIn hl) r2 hq) λr s' hq'=>?_))
 cases r with
 | error e=>exact hx pins σ _ _ e s' I2 hq'
 | ok fl=>
  cases fl with
  | ret u=>
   obtain ⟨v,H',I3,rv,ev,q3⟩:=I2.after hq';subst ev;exact ⟨rv,⟨V.ref (s.heap.objs.size + 1),H',I3,rfl,q3⟩⟩
  | next=>exact False.elim hq'
  | brk=>exact False.elim hq'
  | cont=>exact False.elim hq'
theorem pe_make (M:Mk X.K C f) (F:FnOk X.prog X.w X.K X.mg X.base CX k f fd ps sp) (hr:Room (k + 1) X.A) (hg:Gl X x) (hm:X.mg x = some (.ref C)) (hb:Binds X.K fd ps ds) (hd:Vals dvs ds) (hx:Zjx CX X E)
  (ha:PA X (e :: es) t) (hdb:(x == ("__debug__" : Str)) = false:=by decide) (he:starEach (e :: es) X.env = (false,eval e X.env) :: starEach es X.env:=by rfl) (hpl:(backTo pos (starEach es X.env)).any (·.1) = false:=by rfl):
  PE X (.Call (.Name x p) (e :: es) [] pos) (Zsg C sp dvs E t):=by
 intro pins s σ H Q I h;refine Jdt (Zmz I hg hm ?_ hdb);refine Je2 (h₀:=X.base) I.ok.mod.kin M.kp (thn (ha pos pins s σ H _ I h) λus s1 ⟨vs,H1,I1,r,q⟩=>⟨I1.kIn,?_⟩) he hpl;exact Zsr M F hr hb hd hx I1 r q
end
section
variable {X:Cx} {CX:CXT} {k:Nat} {f C:Addr} {fd:FuncData} {ps ks:List Str} {sp:Sp} {E:XK} {x m:Str} {p pos apos kpos:Pos} {e o:Expr} {es:List Expr} {kws:List Keyword} {te ta:TE} {t tk:TA} {nm:Option Str}
structure KBinds (K:PySem.W.Frag) (fd:FuncData) (ps ks:List Str) (g:List Value->List Value->List Value) (gV:List V->List V->List V):Prop where
 to:∀ (s:Shared) (us ws:List Value),K.In s.heap->(g us ws).length = ps.length->BindsTo s fd ⟨us,ks.zip ws⟩ (ps.zip (g us ws))
 rel:∀ {vs:List V} {us:List Value} {zs:List V} {ws:List Value},Vals vs us->Vals zs ws->Vals (gV vs zs) (g us ws)
variable {g:List Value->List Value->List Value} {gV:List V->List V->List V}
end
structure FnScope (N P:List Str) (sc:Scope):Prop where
 kind:sc.kind = .function
 co:sc.isCoroutine = false
 gen:sc.isGenerator = false
 nd:N.Nodup
 pre:N.take P.length = P
 par:∀ x ∈ P,sc.names.lookup x = some .local\/sc.names.lookup x = some .cell
 nofree:∀ y ∈ sc.names,y.2 ≠ .free
theorem Zl4 {kindOf:Str->Option NameKind} {x:Str}:∀ {binds:List (Str × Value)} {m:Str->Option Value},(∀ v,(x,v) ∉ binds)->bindL kindOf binds m x = m x
 | [],_,_=>rfl
 | (n,v) :: r,m,h=>by
  unfold bindL;rw [Zl4 λw hw=>h w (Jcc _ hw)];split
  .have:x ≠ n:=by rintro rfl; exact h v Jc6
   simp [this]
  .rfl
theorem Zl6 {kindOf:Str->Option NameKind} {x:Str}:∀ {binds:List (Str × Value)} {m:Str->Option Value},(∀ v,(x,v) ∉ binds)->bindC kindOf binds m x = m x
 | [],_,_=>rfl
 | (n,v) :: r,m,h=>by
  unfold bindC;rw [Zl6 λw hw=>h w (Jcc _ hw)];split
  .rfl
  .have:x ≠ n:=by rintro rfl; exact h v Jc6
   simp [this]
theorem Zl5 {kindOf:Str->Option NameKind} {x:Str} {v:Value}:∀ {P:List Str} {vs:List Value} {i:Nat} {m:Str->Option Value},P.Nodup->P[i]? = some x->vs[i]? = some v->kindOf x = some .local->
  bindL kindOf (P.zip vs) m x = some v
 | [],_,_,_,_,h,_,_=>by simp at h
 | _ :: _,[],_,_,_,_,h,_=>by simp at h
 | p :: P,w :: vs,0,m,nd,h1,h2,hk=>by
  simp at h1 h2; subst h1; subst h2;show bindL kindOf ((p,w) :: P.zip vs) m p = _;unfold bindL;rw [Zl4 λv hv=>(Jeu.mp nd).1 (List.of_mem_zip hv).1,if_pos hk];simp
 | p :: P,w :: vs,i + 1,m,nd,h1,h2,hk=>by
  show bindL kindOf ((p,w) :: P.zip vs) m x = _;unfold bindL;exact Zl5 (i:=i) (Jeu.mp nd).2 (by simpa using h1) (by simpa using h2) hk
theorem Zl7 {kindOf:Str->Option NameKind} {x:Str} {v:Value}:∀ {P:List Str} {vs:List Value} {i:Nat} {m:Str->Option Value},P.Nodup->P[i]? = some x->vs[i]? = some v->kindOf x ≠ some .local->
  bindC kindOf (P.zip vs) m x = some v
 | [],_,_,_,_,h,_,_=>by simp at h
 | _ :: _,[],_,_,_,_,h,_=>by simp at h
 | p :: P,w :: vs,0,m,nd,h1,h2,hk=>by
  simp at h1 h2; subst h1; subst h2;show bindC kindOf ((p,w) :: P.zip vs) m p = _;unfold bindC;rw [Zl6 λv hv=>(Jeu.mp nd).1 (List.of_mem_zip hv).1,if_neg hk];simp
 | p :: P,w :: vs,i + 1,m,nd,h1,h2,hk=>by
  show bindC kindOf ((p,w) :: P.zip vs) m x = _;unfold bindC;exact Zl7 (i:=i) (Jeu.mp nd).2 (by simpa using h1) (by simpa using h2) hk
noncomputable def start (N:List Str) (vs:List V):St:=vs.map some ++ List.replicate (N.length - vs.length) none
def Zt4 (CX:CXT) (P:Program) (w:World) (K:PySem.W.Frag) (mg:Str->Option Value) (base:Heap) (N:List Str) (qual:Str) (scope:Scope) (f:Addr) (cd:Value) (A:Around) (outer:List Env) (s:Shared) (H:Hp) (E:XK):Cx where
 prog:=P
 w:=w
 K:=K
 mg:=mg
 base:=base
 A:=A.deeper (envOfC qual scope s.heap.objs.size f cd)
 N:=N
 s₀:=s
 H₀:=H
 env:=envOfC qual scope s.heap.objs.size f cd
 outer:=outer
 stack:=envOfC qual scope s.heap.objs.size f cd :: outer
 ex:=[]
 calm:=true
 fn:=λ_=>true
 pn:=[]
 xe:=λe s'=>wpAny (model P w) (A.deeper (envOfC qual scope s.heap.objs.size f cd)) (leaving (envOfC qual scope s.heap.objs.size f cd) e) (λ_ s''=>CX outer H s E e s'') (λe' s''=>CX outer H s E e' s'') s'
theorem Zn6 {sc:Scope} {n:Nat} {x:Str} (h:sc.names.lookup x = some .cell):∃ c,(cellsFrom n sc.names []).lookup x = some c:=by
 have q:=Jdr sc.names n [] (.inl h);exact Jd7.mp q
theorem Zq8 {CX:CXT} {P:Program} {w:World} {K:PySem.W.Frag} {mg:Str->Option Value} {base:Heap} {N ps:List Str} {qual:Str} {scope:Scope} {f:Addr} {cd:Value} {A:Around} {outer:List Env} {s s1:Shared} {H:Hp} {E:XK} {us:List Value} {vs:List V}
  (S:FnScope N ps scope) (hd:A.handled = none) (e0:Env0 P w K mg base A outer s H) (hl:vs.length = ps.length) (r:Vals vs us)
  (x:InCallC s s.heap.objs.size (bindL (envOfC qual scope s.heap.objs.size f cd).kindOf (ps.zip us) λ_=>none) (cellsFrom (s.heap.objs.size + 1) scope.names []) (bindC (envOfC qual scope s.heap.objs.size f cd).kindOf (ps.zip us) λ_=>none) s1):
  Inv (Zt4 CX P w K mg base N qual scope f cd A outer s H E) [] (start N vs) H s1:=by
 have hpl:ps.length<=N.length:=by have:=Jdz List.length S.pre; rw [Jbf] at this; omega
 obtain ⟨h1,tk,rfl,hk⟩:=x.done;have noA:∀ b:Addr,b ∉ (Zt4 CX P w K mg base N qual scope f cd A outer s H E).ex:=λb z=>absurd (show b ∈ ([]:List Addr) from z) (by simp);refine ⟨⟨e0.mod,S.kind,rfl,rfl,Jag _,λy z c h1 h2=>?_,λy hy=>?_,λy c _ h=>?_,λ_=>hd,Around.frames_deeper e0.frames,.inr ⟨rfl,rfl⟩,λb z=>absurd z (noA b),e0.bs,e0.bsz,λb _ _=>noA b,λb z=>absurd z (noA b),e0.funs,e0.frf,⟨_,_,rfl,S.gen,S.co,rfl,rfl⟩⟩,
  rfl,e0.bare,Un.kept hk,⟨_,x.toInCall.ns,λi y v h1 h2 h3=>?_⟩,λy c h=>⟨_,x.cell y c h⟩,e0.hok.fresh (Jag _),λy c h=>?_,λp hp=>absurd (show p ∈ ([]:List (Addr × Obj)) from hp) (by simp),e0.hok.kept hk,?_⟩
 .exact name_of_addr x.apart (Jbl h1) (Jbl h2)
 .have hy:scope.names.lookup y = some .cell\/scope.names.lookup y = some .free:=hy;rcases hy with hy | hy
  .exact Zn6 hy
  .exact absurd rfl (S.nofree _ (Jbl hy))
 .exact Jcd (x.above y c (Jbl h))
 .have hi:i < vs.length:=by
   unfold start at h2;by_cases hi:i < vs.length
   .exact hi
   .rw [Jbb (by simpa using hi)] at h2;rw [Jbw] at h2;split at h2 <;> cases h2
  have ha:vs[i]? = some v:=by
   unfold start at h2;rw [Jbd (by simpa using hi),Jad] at h2;cases e:vs[i]? with
   | none=>rw [e] at h2; cases h2
   | some a=>rw [e] at h2; cases h2; rfl
  obtain ⟨u,hu,rv⟩:=r.get ha;have hp:ps[i]? = some y:=by
   rw [<- S.pre,Jde (by omega)]; exact h1
  have ndP:ps.Nodup:=by rw [<- S.pre]; exact S.nd.sublist (List.take_sublist _ _)
  refine ⟨u,rv,?_⟩;rcases S.par y (Jae hp) with k | k
  .exact .inl ⟨k,Zl5 ndP hp hu k⟩
  .obtain ⟨c,e⟩:=Zn6 (n:=s.heap.objs.size + 1) k;refine .inr ⟨.inl k,c,e,?_⟩;have q:=x.cell y c e;rw [Zl7 ndP hp hu (by show scope.names.lookup y ≠ _; rw [k]; decide)] at q;exact q
 .exact e0.hok.fresh (Jcd (x.above y c (Jbl h)))
 .unfold start;show _ = N.length;rw [Jam,Jab,Ja9];omega
theorem fn_of {CX:CXT} {P:Program} {w:World} {K:PySem.W.Frag} {mg:Str->Option Value} {base:Heap} {k:Nat} {f:Addr} {name qual:Str} {params:Arguments} {body:List Stmt} {scope:Scope} {dV kV doc pm cdv ct oc:Value} {an od:Option Addr}
  {osl:Array (Option Value)} {N ps:List Str} {sp:Sp} (lk:K.lookup f = some ⟨oc,od,.func (PySem.W.fnOf name qual params body scope dV kV doc pm an cdv ct),osl⟩) (hcd:PySem.W.codeIn K cdv qual = true) (S:FnScope N ps scope)
  (len:∀ vs H Q E,sp vs H Q E->vs.length = ps.length)
  (hbody:∀ (A:Around) (outer:List Env) (s:Shared) (H:Hp) (vs:List V) (Q:VK) (E:XK),Room k (A.deeper (envOfC qual scope s.heap.objs.size f cdv))->sp vs H Q E->
   ∃ t,PSs (Zt4 CX P w K mg base N qual scope f cdv A outer s H E) body t/\t { nx:=λ_ H'=>Q .non H',rt:=Q } (start N vs) H):
  FnOk P w K mg base CX (k + 1) f (PySem.W.fnOf name qual params body scope dV kV doc pm an cdv ct) ps sp:=by
 refine ⟨len,λA outer s H args us vs Q E hr e0 hb r hsp=>?_⟩;have hl:=len _ _ _ _ hsp;have KX:K.In s.heap:=e0.mod.kin.keeps λb o e=>(e0.bs b o e).1;have lim:s.heap.NoLimit:=e0.mod.nolimit.keeps λb o e=>(e0.bs b o e).1;have hkind:∀ y ∈ ps.zip us,scope.names.lookup y.1 = some .local\/(scope.names.lookup y.1 = some .cell/\((cellsFrom (s.heap.objs.size + 1) scope.names []).lookup y.1).isSome = true):=λ⟨n,v⟩ hy=>by
  rcases S.par n (List.of_mem_zip hy).1 with q | q
  .exact .inl q
  .exact .inr ⟨q,Jdr _ _ _ (.inl q)⟩
 refine codeAny_call_function hr.depth (KX _ _ lk) rfl S.co S.gen rfl (PySem.W.codeRec_of KX hcd) (hb _ _ _ _ ?_);refine wpAny_newFunctionEnv_cells S.kind hkind λenv he s1 x=>?_;subst he;refine ⟨lim.keeps x.toInCall.keep,codeAny_func ?_⟩;obtain ⟨t,ht,hq⟩:=hbody A outer s H vs Q E (hr.deeper _) hsp;have I:Inv (Zt4 CX P w K mg base N qual scope f cdv A outer s H E) [] (start N vs) H s1:=Zq8 S hr.hd e0 hl r x;refine Jbz (ht [] s1 (start N vs) H _ I hq) (λfl s' hs=>?_) λe s' hs=>hs;have fin:∀ {σ':St} {H':Hp} {v:V} {u:Value},Inv (Zt4 CX P w K mg base N qual scope f cdv A outer s H E) [] σ' H' s'->RelV v u->Q v H'->CE outer P w H s Q u s':=
  λ{σ' H' v u} J rv q=>⟨v,H',J.os,J.bare,J.base,J.hok,rv,q⟩
 cases fl with
 | ret u=>
  obtain ⟨v,σ',H',J,rv,q⟩:=hs;exact fin J rv q
 | next=>
  obtain ⟨σ',H',J,q⟩:=hs;exact fin (v:=V.non) (u:=Value.none) J rfl q
 | brk=>
  obtain ⟨_,_,_,q⟩:=hs;exact False.elim q
 | cont=>
  obtain ⟨_,_,_,q⟩:=hs;exact False.elim q
section
variable {X:Cx} {x:Str} {p pos:Pos} {e:Expr} {es:List Expr} {t:TA} {id T:String} {r:List V->Hp->VK->Prop}
def tCB (r:List V->Hp->VK->Prop) (t:TA):TE:=λσ H Q=>t σ H λvs H1=>r vs H1 Q
theorem Zs1 (hc:Zgu X (.builtin id) r) (hg:Gl X x) (hm:X.mg x = none) (hv:bootBuiltins x = some (.builtin id)) (ha:PA X (e :: es) t) (hn:x ≠ "__name__" := by decide) (hdb:(x == ("__debug__" : Str)) = false:=by decide)
  (he:starEach (e :: es) X.env = (false,eval e X.env) :: starEach es X.env:=by rfl) (hpl:(backTo pos (starEach es X.env)).any (·.1) = false:=by rfl):PE X (.Call (.Name x p) (e :: es) [] pos) (tCB r t):=by
 intro pins s σ H Q I h;refine Jdt (Zfg I hg hm hv ?_ hn hdb);exact PyProof.Rows.callWith_builtin1 (thn (ha pos pins s σ H _ I h) λus s1 ⟨vs,H1,I1,r1,q1⟩=>hc pins s1 σ H1 vs us Q I1 r1 q1) he hpl
theorem Zp1 (hc:Zgu X (.type T) r) (hg:Gl X x) (hm:X.mg x = none) (hv:bootBuiltins x = some (.type T)) (ha:PA X (e :: es) t) (hn:x ≠ "__name__" := by decide) (hdb:(x == ("__debug__" : Str)) = false:=by decide)
  (he:starEach (e :: es) X.env = (false,eval e X.env) :: starEach es X.env:=by rfl) (hpl:(backTo pos (starEach es X.env)).any (·.1) = false:=by rfl):PE X (.Call (.Name x p) (e :: es) [] pos) (tCB r t):=by
 intro pins s σ H Q I h;refine Jdt (Zfg I hg hm hv ?_ hn hdb);exact Jbq (thn (ha pos pins s σ H _ I h) λus s1 ⟨vs,H1,I1,r1,q1⟩=>hc pins s1 σ H1 vs us Q I1 r1 q1) he hpl
end
end L2
namespace HT
open PySem PyProof.Rows
section
open PySem.SeqAt
open PySem.AutoSeq1 (wpAny_loadPart')
open PySem.MeetsSeq PySem.MeetsSeq2 PySem.MeetsSeq3
end
section
variable {prog:Program} {w:World} {A:Around} {E:Value->Shared->Prop} {s:Shared}
noncomputable def sIx (n d:Nat):Option Int->Nat
 | none=>d
 | some v=>if v < 0 then (v + (n:Int)).toNat else min v.toNat n
theorem sIx_le (n d:Nat) (hd:d<=n) (o:Option Int):sIx n d o<=n:=by
 cases o with
 | none=>exact hd
 | some v=>
  show (if v < 0 then (v + (n:Int)).toNat else min v.toNat n)<=n;by_cases hv:v < 0
  .rw [if_pos hv]; omega
  .rw [if_neg hv]; exact Nat.min_le_right _ _
theorem Zrt (v:Int) (n d:Nat):(if v < 0 then max (v + (n:Int)) 0 else min v (n:Int)) = ((sIx n d (some v):Nat):Int):=by
 show (if v < 0 then max (v + (n:Int)) 0 else min v (n:Int)) = (((if v < 0 then (v + (n:Int)).toNat else min v.toNat n):Nat):Int);by_cases hv:v < 0
 .simp only [if_pos hv]; omega
 .simp only [if_neg hv]; omega
theorem Zoz (lo hi:Option Int) (n:Nat):Builtin.Slice.sliceAdjust lo hi 1 (n:Int) = (((sIx n 0 lo:Nat):Int),((sIx n n hi:Nat):Int)):=by
 have h1:¬ ((1:Int) < 0):=by omega
 unfold Builtin.Slice.sliceAdjust;simp only [h1,Jdu];refine Jfh ?_ ?_
 .cases lo with
  | none=>rfl
  | some v=>exact Zrt v n 0
 .cases hi with
  | none=>rfl
  | some v=>exact Zrt v n n
theorem Zol (i j:Nat):Builtin.Slice.slicePlaces (i:Int) (j:Int) 1 = j - i:=by
 unfold Builtin.Slice.slicePlaces;have h1:(1:Int) > 0:=by omega
 simp only [h1,Jdf,Int.ediv_one];split <;> omega
theorem Zje {v:Value} {o:Option Int} {Q:Option Int->Shared->Prop} (p:IsPart v o) (h:Q o s):wpAny (model prog w) A (Builtin.Slice.slicePartIndex v) Q E s:=by
 cases p with
 | none=>exact slicePart_none h
 | int i t=>exact slicePart_int h
theorem Zhj {sl:Addr} {vl vu:Value} {lo hi:Option Int} {n:Nat} {Q:Int × Int × Nat->Shared->Prop} (hs:s.heap.IsSliceOf sl vl vu .none) (pl:IsPart vl lo) (pu:IsPart vu hi)
  (h:Q (((sIx n 0 lo:Nat):Int),1,sIx n n hi - sIx n 0 lo) s):wpAny (model prog w) A (Builtin.Slice.sliceApplied (.ref sl) (pure (n:Int))) Q E s:=by
 obtain ⟨os,hos,hcs,hds⟩:=id hs;unfold Builtin.Slice.sliceApplied Builtin.Slice.sliceFields;refine Jaf (Jaf (Jc1 hos hds (x:=vl) rfl (Jaf (Jc1 hos hds (x:=vu) rfl (Jaf (Jc1 hos hds (x:=.none) rfl (Jan ?_)))))));refine Jaf (slicePart_none ?_);show wpAny _ _ (if ((1:Int) == 0) = true then _ else _) _ _ s;rw [if_neg (by decide)];refine Jaf (Zje pl (Jaf (Zje pu (Jaf (Jan ?_)))));show wpAny _ _ (match Builtin.Slice.sliceAdjust lo hi 1 (n:Int) with | (lo,hi)=>pure (lo,(1:Int),Builtin.Slice.slicePlaces lo hi 1)) _ _ s;rw [Zoz lo hi n];show wpAny _ _ (pure (((sIx n 0 lo:Nat):Int),(1:Int),Builtin.Slice.slicePlaces ((sIx n 0 lo:Nat):Int) ((sIx n n hi:Nat):Int) 1)) _ _ s;rw [Zol];exact Jan h
theorem Zsy (xs:Array Value) (i k:Nat):((List.range k).filterMap λ(m:Nat)=>xs[((i:Int) + (m:Int) * 1).toNat]?).toArray = ((xs.toList.drop i).take k).toArray:=by
 have e:(λ(m:Nat)=>xs[((i:Int) + (m:Int) * 1).toNat]?) = λm=>xs[i + m]?:=by
  funext m
  have:((i:Int) + (m:Int) * 1).toNat = i + m:=by omega
  rw [this]
 rw [e];have:=pick_run xs i k;rw [List.filterMap_map] at this;have e2:((λx=>xs[x]?) ∘ λx=>i + x) = λm=>xs[i + m]?:=rfl;rw [e2] at this;rw [this]
theorem getItem_tuple_cut {t sl:Addr} {items:Array Value} {vl vu:Value} {lo hi:Option Int} {Q:Value->Shared->Prop} (ht:IsTup s.heap t items) (hs:s.heap.IsSliceOf sl vl vu .none) (pl:IsPart vl lo) (pu:IsPart vu hi)
  (hw:¬ (sIx items.size 0 lo = 0/\sIx items.size items.size hi = items.size))
  (h:Q (.ref s.heap.objs.size) { s with heap:=s.heap.push { cls:=.type "tuple",data:=.seq ((items.toList.drop (sIx items.size 0 lo)).take (sIx items.size items.size hi - sIx items.size 0 lo)).toArray } })
  (hsz:items.size<=sizeLine):wpAny (model prog w) A (getItem (.ref t) (.ref sl)) Q E s:=by
 have htake:sizeOk (.seq ((items.toList.drop (sIx items.size 0 lo)).take (sIx items.size items.size hi - sIx items.size 0 lo)).toArray):=by
  show ((items.toList.drop (sIx items.size 0 lo)).take (sIx items.size items.size hi - sIx items.size 0 lo)).toArray.size<=sizeLine;rw [Jaq,Jbf,Jbm,Jer];omega
 have hj:sIx items.size items.size hi<=items.size:=sIx_le _ _ (Jag _) hi;obtain ⟨os,hos,hcs,hds⟩:=id hs;have hTs:s.TypeIs (.ref sl) "slice" := ⟨os,hos,hcs⟩
 unfold getItem
 try with_reducible refine Jca ?_
 first | refine Jaf (Jan ?_) | skip
 refine Jaf (wpAny_sequenceKey ht.typeIs (by decide) ?_);refine Jaf (Jdl (name:=Str.ofString "__getitem__") ht.typeIs Jdg
  (Jem Jdg ht.typeIs entry_tuple_getitem ?_ (args_tuple_getitem _ _)))
 show wpAny _ _ (Builtin.Tuple.tupleItemsOf (.ref t) >>= _) _ _ s;refine Jaf (tupleItemsOf_ ht ?_);refine Jaf (wpAny_typeOf hTs ?_);rw [if_pos (by decide)];refine Jaf (Zhj hs pl pu ?_);have hno:¬ ((((sIx items.size 0 lo:Nat):Int) == 0 && (1:Int) == 1 && (sIx items.size items.size hi - sIx items.size 0 lo) == items.size) = true):=by
  intro q;rw [Jb7,Jb7] at q;have q1:((sIx items.size 0 lo:Nat):Int) = 0:=eq_of_beq q.1.1;have q2:sIx items.size items.size hi - sIx items.size 0 lo = items.size:=eq_of_beq q.2;exact hw ⟨by omega,by omega⟩
 show wpAny _ _ (if (((sIx items.size 0 lo:Nat):Int) == 0 && (1:Int) == 1 && (sIx items.size items.size hi - sIx items.size 0 lo) == items.size) = true then _ else _) _ _ s;rw [if_neg hno,Zsy]
 first
  | exact Jaf (m:=Builtin.Tuple.tupleExact _) (Jc0 (Jan ⟨_,rfl,Jan h⟩) htake)
  | exact Jaf (m:=Builtin.Tuple.tupleExact _) (Jc0 (Jaf (Jan (Jan ⟨_,rfl,Jan h⟩))) htake)
  | exact Jaf (Jaf (m:=Builtin.Tuple.tupleExact _) (Jc0 (Jan (Jan ⟨_,rfl,Jan h⟩)) htake))
  | exact Jaf (Jaf (m:=Builtin.Tuple.tupleExact _) (Jc0 (Jan ⟨_,rfl,Jan h⟩) htake))
end
end HT
namespace L2
open PySem PySem.Spec PyProof.Rows
abbrev TO:=St->Hp->(Option Int->Hp->Prop)->Prop
def PO (X:Cx) (e:Option Expr) (t:TO):Prop:=
 ∀ (pins:List (Addr × Obj)) (s:Shared) (σ:St) (H:Hp) (Q:Option Int->Hp->Prop),Inv X pins σ H s->t σ H Q->
  wpAny (model X.prog X.w) X.A (evalPart e X.env) (λu s'=>∃ o H',Inv X pins σ H' s'/\IsPart u o/\Q o H') X.xe s
def Zo9:TO:=λ_ H Q=>Q none H
def tPart (t:TE):TO:=λσ H Q=>t σ H λx H1=>∃ i,x = .int i/\Q (some i) H1
section
variable {X:Cx} {e:Expr} {te:TE} {lo hi:Option Expr} {tl th:TO} {pos p2:Pos}
theorem Zga:PO X none Zo9:=by
 intro pins s σ H Q I h;rw [evalPart_none];exact Jan ⟨none,H,I,.none,h⟩
theorem Zd9 (h:PE X e te):PO X (some e) (tPart te):=by
 intro pins s σ H Q I hw;rw [evalPart_some];refine thn (h pins s σ H _ I hw) λu s1 ⟨x,H1,I1,r1,q1⟩=>?_;obtain ⟨i,rfl,q⟩:=q1;obtain ⟨t,rfl⟩:=r1;exact ⟨some i,H1,I1,.int i t,q⟩
def SlR (X:Cx) (r:V->Option Int->Option Int->Hp->VK->Prop):Prop:=
 ∀ (pins:List (Addr × Obj)) (s:Shared) (σ:St) (H:Hp) (x:V) (v vl vu:Value) (lo hi:Option Int) (sl:Addr) (Q:VK),Inv X pins σ H s->RelV x v->s.heap.IsSliceOf sl vl vu .none->IsPart vl lo->IsPart vu hi->r x lo hi H Q->
  ∃ T id,typeLookup (.type T) "__getitem__" = pure (some (.builtin id))/\s.TypeIs v T/\wpAny (model X.prog X.w) X.A (getItem v (.ref sl)) (EP X pins σ Q) X.xe s
def tSl (r:V->Option Int->Option Int->Hp->VK->Prop) (te:TE) (tl th:TO):TE:=λσ H Q=>te σ H λx H1=>tl σ H1 λl H2=>th σ H2 λu H3=>r x l u H3 Q
theorem Zd4 {r:V->Option Int->Option Int->Hp->VK->Prop} (hr:SlR X r) (he:PE X e te) (hl:PO X lo tl) (hu:PO X hi th):PE X (.Subscript e (.Slice lo hi none p2) pos) (tSl r te tl th):=by
 intro pins s σ H Q I h;refine Subscript_ (thn (he pins s σ H _ I h) λv s1 ⟨x,H1,I1,r1,q1⟩=>?_);refine wpAny_Slice (thn (hl pins s1 σ H1 _ I1 q1) λvl s2 ⟨l,H2,I2,pl,q2⟩=>thn (hu pins s2 σ H2 _ I2 q2) λvu s3 ⟨u,H3,I3,pu,q3⟩=>?_);rw [evalPart_none];refine Jan ?_;have I4:Inv X pins σ H3 { s3 with heap:=s3.heap.push { cls:=.type "slice",data:=.fields #[vl,vu,.none] } }:=I3.kept (t':=s3.toks) λb ob q=>Jai _ q;obtain ⟨T,id,hT,ht,hg⟩:=hr pins { s3 with heap:=s3.heap.push { cls:=.type "slice",data:=.fields #[vl,vu,.none] } } σ H3 x v vl vu l u s3.heap.objs.size Q I4 r1 (Heap.IsSliceOf.new ..) pl pu q3;show wpAny (model X.prog X.w) X.A (subscriptTail e (.Slice lo hi none p2) v (.ref s3.heap.objs.size)) (EP X pins σ Q) X.xe { s3 with heap:=s3.heap.push { cls:=.type "slice",data:=.fields #[vl,vu,.none] } };exact tail_any (ops:=[.ref s3.heap.objs.size,v]) ht hT hg (by with_unfolding_all rfl)
def Zlz (xs:List V) (lo hi:Option Int):List V:=(xs.drop (HT.sIx xs.length 0 lo)).take (HT.sIx xs.length xs.length hi - HT.sIx xs.length 0 lo)
theorem Zit (xs:List V) (lo hi:Option Int):(Zlz xs lo hi).length<=xs.length:=by
 unfold Zlz;rw [Jbf,Jbm];omega
def rSlT (K:PySem.W.Frag):V->Option Int->Option Int->Hp->VK->Prop:=λx lo hi H Q=>∃ a xs,x = .ref a/\SqT K H a xs /\
 ¬ (HT.sIx xs.length 0 lo = 0/\HT.sIx xs.length xs.length hi = xs.length)/\∀ p,H p = none->Q (.ref p) (upd H p (.tup (Zlz xs lo hi)))
theorem sl_tup:SlR X (rSlT X.K):=by
 intro pins s σ H x v vl vu lo hi sl Q I rx hs pl pu h;obtain ⟨a,xs,rfl,hx,hw,q⟩:=h;cases rx;obtain ⟨its,r,ht,hz⟩:=I.tuple hx;have hlen:its.toArray.size = xs.length:=by rw [Jaq]; exact r.length.symm
 refine ⟨"tuple",_,Jdg.lookup,ht.typeIs,?_⟩;refine HT.getItem_tuple_cut ht hs pl pu (by rw [hlen]; exact hw) ?_ (by rw [hlen]; exact hz);rw [hlen];refine ⟨.ref s.heap.objs.size,_,I.laid (t':=s.toks) (o:=.tup (Zlz xs lo hi)) (λb ob q=>Jai _ q) (Jag _) ?_,rfl,q _ (I.hok.fresh (Jag _))⟩;exact ⟨Jat (Zit xs lo hi) hz,_,(r.drop (HT.sIx xs.length 0 lo)).take (HT.sIx xs.length xs.length hi - HT.sIx xs.length 0 lo),IsTup.new _ _⟩
end
noncomputable def ixN (n:Nat) (i:Int):Option Nat:=if 0<=i then (if i < n then some i.toNat else none) else if -(n:Int)<=i then some (i + n).toNat else none
noncomputable def atI {α:Type} (xs:List α) (i:Int):Option α:=(ixN xs.length i).bind λj=>xs[j]?
theorem Zq4 {n:Nat} {i:Int} {j:Nat} (h:ixN n i = some j):seqIndex? i n = some j/\j < n/\-(n:Int)<=i/\i < n:=by
 unfold ixN at h;by_cases h0:0<=i
 .rw [if_pos h0] at h;by_cases h1:i < n
  .rw [if_pos h1] at h;have e:i.toNat = j:=Jbp h;exact ⟨by rw [seqIndex_of h0 h1,e],by omega,by omega,h1⟩
  .rw [if_neg h1] at h; cases h
 .rw [if_neg h0] at h;by_cases h1:-(n:Int)<=i
  .rw [if_pos h1] at h;have e:(i + n).toNat = j:=Jbp h;exact ⟨by rw [seqIndex_neg (by omega) h1,e],by omega,h1,by omega⟩
  .rw [if_neg h1] at h; cases h
theorem Zr2 {α:Type} {xs:List α} {i:Int} {v:α} (h:atI xs i = some v):∃ j,seqIndex? i xs.length = some j/\xs[j]? = some v/\j < xs.length/\-(xs.length:Int)<=i/\i < xs.length:=by
 unfold atI at h;cases e:ixN xs.length i with
 | none=>rw [e] at h; cases h
 | some j=>
  rw [e] at h;obtain ⟨h1,h2,h3,h4⟩:=Zq4 e;exact ⟨j,h1,h,h2,h3,h4⟩
theorem atI_nat {α:Type} {xs:List α} {j:Nat} {v:α} (h:xs[j]? = some v):atI xs (j:Int) = some v:=by
 have hj:j < xs.length:=(Jah.mp h).1;have e:ixN xs.length (j:Int) = some j:=by
  unfold ixN;rw [if_pos (by omega),if_pos (by omega)]; simp
 unfold atI; rw [e]; exact h
def PlainIx (b:Expr):Prop:=∀ o i,subscripted b false o i = operate [o,i] (getItem o i)
def IxR (X:Cx) (r:R2):Prop:=
 ∀ (value slice:Expr) (pins:List (Addr × Obj)) (s:Shared) (σ:St) (H:Hp) (x y:V) (v u:Value) (Q:VK),Inv X pins σ H s->RelV x v->RelV y u->r x y H Q->
  subscripted slice false v u = operate [v,u] (getItem v u)->wpAny (model X.prog X.w) X.A (subscriptTail value slice v u) (EP X pins σ Q) X.xe s
def MtR (X:Cx) (id:String) (r:V->List V->Hp->VK->Prop):Prop:=
 ∀ (pins:List (Addr × Obj)) (s:Shared) (σ:St) (H:Hp) (x:V) (xs:List V) (v:Value) (us:List Value) (Q:VK),Inv X pins σ H s->RelV x v->Vals xs us->r x xs H Q->
  wpAny (model X.prog X.w) X.A (call (.builtin id) (v :: us)) (EP X pins σ Q) X.xe s
section
variable {X:Cx} {a b:Expr} {ta tb:TE} {pos:Pos}
theorem pe_ix {r:R2} (hr:IxR X r) (ha:PE X a ta) (hb:PE X b tb) (hs:PlainIx b):PE X (.Subscript a b pos) (tOp r ta tb):=by
 intro pins s σ H Q I h;exact Subscript_ (binT ha hb I h λv u s2 x y H2 I2 rx ry q=>hr a b pins s2 σ H2 x y v u Q I2 rx ry q (hs _ _))
def rIxL (K:PySem.W.Frag):R2:=λx y H Q=>∃ p xs i v,x = .ref p/\y = .int i/\SqL K H p xs/\atI xs i = some v/\Q v H
def rIxT (K:PySem.W.Frag):R2:=λx y H Q=>∃ p xs i v,x = .ref p/\y = .int i/\SqT K H p xs/\atI xs i = some v/\Q v H
theorem Zat:IxR X (rIxL X.K):=by
 intro value slice pins s σ H x y v u Q I rx ry h hs;obtain ⟨p,xs,i,z,rfl,rfl,hq,he,q⟩:=h;cases rx;obtain ⟨t,rfl⟩:=ry;obtain ⟨its,r,pl,hz⟩:=I.list hq;obtain ⟨j,h1,h2,h3,h4,h5⟩:=Zr2 he;obtain ⟨w,ew,rw'⟩:=r.get h2;have hl:=r.length;have hn:=Znr;have fin:EP X pins σ Q w s:=⟨z,H,I,rw',q⟩
 by_cases h0:0<=i
 .have hj:i.toNat = j:=by
   rw [seqIndex_of h0 h5] at h1;exact Jbp h1
  exact item_listR pl.isList h0 (by omega) (by rw [hj]; simpa using ew) fin hs
 .have hj:(i + (its.toArray.size:Int)).toNat = j:=by
   rw [seqIndex_neg (by omega) h4] at h1;rw [Jaq,<- hl];exact Jbp h1
  exact subscriptTail_builtinR (x:=w) pl.isList.typeIs slot_list_getitem.lookup
   (wpAny_getItem_list_neg (Q:=λr s'=>r = w/\EP X pins σ Q r s') pl.isList (by omega) (by rw [Jaq] <;> omega) (by omega) (by rw [hj]; simpa using ew) ⟨rfl,fin⟩) hs
theorem Zaq:IxR X (rIxT X.K):=by
 intro value slice pins s σ H x y v u Q I rx ry h hs;obtain ⟨p,xs,i,z,rfl,rfl,hq,he,q⟩:=h;cases rx;obtain ⟨t,rfl⟩:=ry;obtain ⟨its,r,pl,hz⟩:=I.tuple hq;obtain ⟨j,h1,h2,h3,h4,h5⟩:=Zr2 he;obtain ⟨w,ew,rw'⟩:=r.get h2;have hl:=r.length;have hn:=Znr;have fin:EP X pins σ Q w s:=⟨z,H,I,rw',q⟩
 exact subscriptTail_builtinR (x:=w) pl.typeIs slot_tuple_getitem.lookup
  (getItem_tuple (j:=j) (Q:=λr s'=>r = w/\EP X pins σ Q r s') pl (by omega) (by omega) (by rw [Jaq,<- hl]; exact h1) (by simpa using ew) ⟨rfl,fin⟩) hs
theorem Zoo (its:List Value) (n j:Nat) (u:Value):Obj.mapSeq (·.setIfInBounds j u) { cls:=.type "list",data:=.seq its.toArray n } = { cls:=.type "list",data:=.seq (its.set j u).toArray n }:=by
 simp [Obj.mapSeq]
theorem Inv.lst {pins:List (Addr × Obj)} {σ:St} {H:Hp} {s:Shared} {p:Addr} {xs:List V} (I:Inv X pins σ H s) (h:H p = some (.lst xs)):
  ∃ (its:List Value) (n:Nat),Vals xs its/\s.heap.get? p = some { cls:=.type "list",data:=.seq its.toArray n }/\xs.length<=sizeLine:=by
 obtain ⟨z,its,n,r,e⟩:=I.hok p _ h;exact ⟨its,n,r,e,z⟩
theorem Inv.lstUpd {pins:List (Addr × Obj)} {σ:St} {H:Hp} {s:Shared} {p:Addr} {xs ys:List V} {its its':List Value} {n n':Nat} {f:Obj->Obj} (I:Inv X pins σ H s) (h:H p = some (.lst xs))
  (ho:s.heap.get? p = some { cls:=.type "list",data:=.seq its.toArray n }) (hf:f { cls:=.type "list",data:=.seq its.toArray n } = { cls:=.type "list",data:=.seq its'.toArray n' }) (r:Vals ys its') (hz:ys.length<=sizeLine) (t:Nat):
  Inv X pins σ (upd H p (.lst ys)) { s with heap:=s.heap.update p f,toks:=t }:=by
 have e:(s.heap.update p f).get? p = some { cls:=.type "list",data:=.seq its'.toArray n' }:=by
  rw [Jc8 f ho (by rw [hf] <;> rfl),hf]
 refine I.write (x:=p) (e:=p) (by rw [h]; trivial) (.inl rfl) (λb u hb q=>(Jcp _ _ (Jcg hb)).trans q) ⟨_,e⟩ ?_;exact ⟨hz,its',n',r,e⟩
def rSetL:V->V->V->Hp->(Hp->Prop)->Prop:=λo i v H Q=>∃ p xs k j,o = .ref p/\i = .int k/\H p = some (.lst xs)/\ixN xs.length k = some j/\Q (upd H p (.lst (xs.set j v)))
theorem Zc6:PSet X rSetL:=by
 intro pins s σ H o i v ov iv u Q I ro ri rv h;obtain ⟨p,xs,k,j,rfl,rfl,hp,hj,q⟩:=h;cases ro;obtain ⟨t,rfl⟩:=ri;obtain ⟨its,n,r,ho,hz⟩:=I.lst hp;obtain ⟨h1,h2,h3,h4⟩:=Zq4 hj;have hl:=r.length;have hn:=Znr;have I':Inv X pins σ (upd H p (.lst (xs.set j v))) { s with heap:=s.heap.update p (Obj.mapSeq (·.setIfInBounds j u)) }:=
  I.lstUpd hp ho (Zoo its n j u) (r.set rv j) (by rw [Jay]; exact hz) s.toks
 by_cases h0:0<=k
 .have hk:k.toNat = j:=by
   rw [seqIndex_of h0 h4] at h1;exact Jbp h1
  exact PySem.W.ki_setAt ho h0 (by omega) (by rw [Jaq,<- hl]; exact h4) (by rw [hk]; exact ⟨_,I',q⟩)
 .have hk:(k + (its.toArray.size:Int)).toNat = j:=by
   rw [seqIndex_neg (by omega) h3] at h1;rw [Jaq,<- hl];exact Jbp h1
  exact PySem.W.ki_setBack ho (by omega) (by rw [Jaq,<- hl]; exact h3) (by omega) (by rw [hk]; exact ⟨_,I',q⟩)
theorem Zk0 (lo hi:Option Int) (n:Nat):(sliceBounds lo hi none n).1 = ((HT.sIx n 0 lo:Nat):Int)/\(sliceBounds lo hi none n).2.1 = ((HT.sIx n n hi:Nat):Int)/\(sliceBounds lo hi none n).2.2 = 1:=by
 refine ⟨?_,?_,rfl⟩
 .cases lo with
  | none=>simp [sliceBounds,HT.sIx]
  | some i=>
   simp only [sliceBounds,HT.sIx,Option.getD_none,show (1:Int) > 0 by decide,Jdf];by_cases h:i < 0
   .simp only [h,Jdf] <;> omega
   .simp only [h,Jdu] <;> omega
 .cases hi with
  | none=>simp [sliceBounds,HT.sIx]
  | some i=>
   simp only [sliceBounds,HT.sIx,Option.getD_none,show (1:Int) > 0 by decide,Jdf];by_cases h:i < 0
   .simp only [h,Jdf] <;> omega
   .simp only [h,Jdu] <;> omega
theorem Zj2 (its:List Value) (lo hi:Option Int):slicePick its.toArray lo hi none = ((its.drop (HT.sIx its.length 0 lo)).take (HT.sIx its.length its.length hi - HT.sIx its.length 0 lo)).toArray:=by
 obtain ⟨h1,h2,h3⟩:=Zk0 lo hi its.toArray.size;unfold slicePick;rw [h1,h2,h3];simp only [sliceRange_one,pick_run,Jaq] <;> rfl
def rSlL (K:PySem.W.Frag):V->Option Int->Option Int->Hp->VK->Prop:=λx lo hi H Q=>∃ a xs,x = .ref a/\SqL K H a xs/\∀ p,H p = none->Q (.ref p) (upd H p (.lst (Zlz xs lo hi)))
theorem Zh5:SlR X (rSlL X.K):=by
 intro pins s σ H x v vl vu lo hi sl Q I rx hs pl pu h;obtain ⟨a,xs,rfl,hx,q⟩:=h;cases rx;obtain ⟨its,r,ht,hz⟩:=I.list hx;have hlen:=r.length;refine ⟨"list",_,slot_list_getitem.lookup,ht.isList.typeIs,?_⟩;refine wpAny_getItem_list_slice ht.isList hs pl pu .none (by simp) ?_ (by rw [Jaq] <;> omega);rw [Zj2,<- hlen];refine ⟨.ref s.heap.objs.size,_,I.laid (t':=s.toks) (o:=.lst (Zlz xs lo hi)) (λb ob q=>Jai _ q) (Jag _) ?_,rfl,q _ (I.hok.fresh (Jag _))⟩;exact ⟨Jat (Zit xs lo hi) hz,_,0,(r.drop (HT.sIx xs.length 0 lo)).take (HT.sIx xs.length xs.length hi - HT.sIx xs.length 0 lo),Ja5 _ rfl⟩
def Zov:V->Bool
 | .non=>true
 | .bl _=>true
 | .int _=>true
 | .str _=>true
 | _=>false
noncomputable def eqV:V->V->Bool
 | .non,.non=>true
 | .bl a,.bl b=>a == b
 | .bl a,.int b=>(if a then 1 else 0) == b
 | .int a,.bl b=>a == (if b then 1 else 0)
 | .int a,.int b=>a == b
 | .str a,.str b=>a == b
 | _,_=>false
theorem eqAt_V {A:Around} {s:Shared} {y x:V} {u v:Value} (ry:RelV y u) (rx:RelV x v) (fy:Zov y = true) (fx:Zov x = true):SeqAt.EqAt A s u v (eqV y x):=by
 cases y with
 | non=>
  cases ry;cases x with
  | non=>cases rx; exact SeqAt.EqAt.same _
  | bl b=>cases rx; exact SeqAt.EqAt.none_bool b
  | int b=>obtain ⟨t,rfl⟩:=rx; exact SeqAt.EqAt.none_int b t
  | str b=>obtain ⟨t,rfl⟩:=rx; exact SeqAt.EqAt.none_str b t
  | _=>exact absurd (show false = true from fx) Jax
 | bl a=>
  cases ry;cases x with
  | non=>cases rx; exact SeqAt.EqAt.bool_none a
  | bl b=>cases rx; exact SeqAt.EqAt.bool_bool a b
  | int b=>obtain ⟨t,rfl⟩:=rx; exact SeqAt.EqAt.bool_int a b t
  | str b=>obtain ⟨t,rfl⟩:=rx; exact SeqAt.EqAt.bool_str a b t
  | _=>exact absurd (show false = true from fx) Jax
 | int a=>
  obtain ⟨t',rfl⟩:=ry;cases x with
  | non=>cases rx; exact SeqAt.EqAt.int_none a t'
  | bl b=>cases rx; exact SeqAt.EqAt.int_bool a t' b
  | int b=>obtain ⟨t,rfl⟩:=rx; exact SeqAt.EqAt.int_int a t' b t
  | str b=>obtain ⟨t,rfl⟩:=rx; exact SeqAt.EqAt.int_str a t' b t
  | _=>exact absurd (show false = true from fx) Jax
 | str a=>
  obtain ⟨t',rfl⟩:=ry;cases x with
  | non=>cases rx; exact SeqAt.EqAt.str_none a t'
  | bl b=>cases rx; exact SeqAt.EqAt.str_bool a t' b
  | int b=>obtain ⟨t,rfl⟩:=rx; exact SeqAt.EqAt.str_int a t' b t
  | str b=>obtain ⟨t,rfl⟩:=rx; exact SeqAt.EqAt.str_str a t' b t
  | _=>exact absurd (show false = true from fx) Jax
 | _=>exact absurd (show false = true from fy) Jax
noncomputable def inV (x:V) (xs:List V):Bool:=xs.any λy=>eqV y x
def rIn (K:PySem.W.Frag) (neg:Bool):R2:=λx y H Q=>∃ p xs,y = .ref p/\(SqL K H p xs\/SqT K H p xs)/\Zov x = true/\xs.all Zov = true/\Q (.bl (if neg then !inV x xs else inV x xs)) H
theorem Zb5:Zgu X (.builtin "len") (λxs H Q=>∃ p ys,xs = [.ref p]/\(SqL X.K H p ys\/SqT X.K H p ys)/\Q (.int ys.length) H):=by
 intro pins s σ H xs us Q I r h;obtain ⟨p,ys,rfl,hq,q⟩:=h;obtain ⟨u,rfl,rx⟩:=Zkr r;cases rx;have hn:=Znr;rcases hq with hq | hq
 .obtain ⟨its,r',pl,hz⟩:=I.list hq;have hlen:=r'.length;exact Calls.call_len_list pl.isList (by simp only [Jaq] <;> omega) ⟨.int ys.length,H,I.tok _,⟨s.toks + 1,by rw [Jaq,hlen]⟩,q⟩
 .obtain ⟨its,r',pl,hz⟩:=I.tuple hq;have hlen:=r'.length;exact len_tuple pl (by simp only [Jaq] <;> omega) ⟨.int ys.length,H,I.tok _,⟨s.toks + 1,by rw [Jaq,hlen]⟩,q⟩
theorem Zhh:Zgu X (.type "list") (λxs H Q=>∃ p ys,xs = [.ref p]/\(SqL X.K H p ys\/SqT X.K H p ys)/\∀ l,H l = none->Q (.ref l) (upd H l (.lst ys))):=by
 intro pins s σ H xs us Q I r h;obtain ⟨p,ys,rfl,hq,q⟩:=h;obtain ⟨u,rfl,rx⟩:=Zkr r;cases rx;have fin:∀ (its:List Value),Vals ys its->ys.length<=sizeLine->∀ (h':Heap) (c':Nat),(∀ b o',s.heap.get? b = some o'->h'.get? b = some o')->
   h'.get? s.heap.objs.size = some { cls:=.type "list",dict:=none,data:=.seq its.toArray c',slots:=#[] }->EP X pins σ Q (.ref s.heap.objs.size) { s with heap:=h' }:=λits r' hz h' c' kp e=>
  ⟨.ref s.heap.objs.size,_,I.laid (t':=s.toks) kp (Jag _) (show ObjOk X.prog X.w _ h' _ (.lst ys) from ⟨hz,its,c',r',e⟩),rfl,q _ (I.hok.fresh (Jag _))⟩
 rcases hq with hq | hq
 .obtain ⟨its,r',pl,hz⟩:=I.list hq;have hlen:=r'.length;obtain ⟨o,ho,hc,n,hd⟩:=pl.isList;exact call_list_seq p (.inl rfl) ho hc hd (λh' c' kp e=>fin its r' hz h' c' kp e) (by simp only [Jaq] <;> omega)
 .obtain ⟨its,r',pl,hz⟩:=I.tuple hq;have hlen:=r'.length;obtain ⟨o,ho,hc,n,hd⟩:=pl;exact call_list_seq p (.inr rfl) ho hc hd (λh' c' kp e=>fin its r' hz h' c' kp e) (by simp only [Jaq] <;> omega)
def tyV (K:PySem.W.Frag) (T:String) (x:V) (H:Hp):Prop:=match x with
 | .str _=>T = "str"
 | .int _=>T = "int"
 | .ref p=>(T = "list" /\ ∃ xs,SqL K H p xs)\/(T = "tuple" /\ ∃ o,K.lookup p = some o/\o.cls = .type "tuple" /\ o.dict = none) \/
   (T = "dict" /\ ((∃ kvs,H p = some (.dK kvs))\/∃ kvs,H p = some (.dT kvs)))\/(T = "set" /\ ∃ S n,H p = some (.set S n))
 | _=>False
theorem Zuj {pins:List (Addr × Obj)} {σ:St} {H:Hp} {s:Shared} {T:String} {x:V} {v:Value} (I:Inv X pins σ H s) (r:RelV x v) (ty:tyV X.K T x H):
  s.TypeIs v T/\∀ a,v = .ref a->∃ ob,s.heap.get? a = some ob/\ob.dict = none:=by
 cases x with
 | str z=>
  obtain ⟨t,rfl⟩:=r;cases (show T = "str" from ty);exact ⟨typeIs_str s z t,λ_ e=>nomatch e⟩
 | int i=>
  obtain ⟨t,rfl⟩:=r;cases (show T = "int" from ty);exact ⟨typeIs_int s i t,λ_ e=>nomatch e⟩
 | ref p=>
  cases r;rcases ty with ⟨rfl,xs,hq⟩ | ⟨rfl,o,hk,hc,hd⟩ | ⟨rfl,hk⟩ | ⟨rfl,S,n,hk⟩
  .obtain ⟨its,_,pl,_⟩:=I.list hq;refine ⟨pl.isList.typeIs,λa e=>?_⟩;cases e;obtain ⟨o,n,e,c,hd,_⟩:=pl;exact ⟨o,e,hd⟩
  .refine ⟨⟨o,I.kIn p o hk,hc⟩,λa e=>?_⟩;cases e;exact ⟨o,I.kIn _ o hk,hd⟩
  .have z:∃ o,s.heap.get? p = some o/\o.ExactDict:=by
    rcases hk with ⟨kvs,hk⟩ | ⟨kvs,hk⟩
    .obtain ⟨_,_,_,_,o,_,_,e,ex,_⟩:=I.hok p _ hk;exact ⟨o,e,ex⟩
    .obtain ⟨_,_,_,_,o,_,_,e,ex,_⟩:=I.hok p _ hk;exact ⟨o,e,ex⟩
   obtain ⟨o,e,ex⟩:=z;refine ⟨⟨o,e,ex.1⟩,λa e2=>?_⟩;cases e2;exact ⟨o,e,ex.2.1⟩
  .obtain ⟨o,_,_,_,e,ex,_⟩:=I.hok p _ hk;refine ⟨⟨o,e,ex.1⟩,λa e2=>?_⟩;cases e2;exact ⟨o,e,ex.2.1⟩
 | _=>exact False.elim ty
def tBM0 (K:PySem.W.Frag) (T:String) (r:V->List V->Hp->VK->Prop) (to:TE):TE:=λσ H Q=>to σ H λx H1=>tyV K T x H1/\r x [] H1 Q
def tBM (K:PySem.W.Frag) (T:String) (r:V->List V->Hp->VK->Prop) (to:TE) (t:TA):TE:=λσ H Q=>to σ H λx H1=>tyV K T x H1/\t σ H1 λxs H2=>r x xs H2 Q
variable {o e:Expr} {es:List Expr} {to:TE} {t:TA} {name:Str} {apos cpos:Pos} {T id:String} {r:V->List V->Hp->VK->Prop}
theorem Zp3 (pa:PlainAttrs T) (slot:Slot T name id) (hty:typeOf (.builtin id) = pure (.type "method_descriptor")) (hm:MtR X id r) (ho:PE X o to)
  (hbase:attributeBase o name X.env (eval o X.env) = eval o X.env:=by rfl) (hline:(apos.endLine == cpos.line) = true:=by rfl):PE X (.Call (.Attribute o name apos) [] [] cpos) (tBM0 X.K T r to):=by
 intro pins s σ H Q I h;refine wpAny_Call_method0_late hbase hline (thn (ho pins s σ H _ I h) λv s1 ⟨x,H1,I1,r1,ty,q1⟩=>?_);obtain ⟨h1,h2⟩:=Zuj I1 r1 ty;exact ⟨T,id,pa,slot,hty,h1,h2,Calls.callWith_builtin rfl (PySem.evalArgs_none (hm pins s1 σ H1 x [] v [] Q I1 r1 .nil q1))⟩
theorem Zhm (pa:PlainAttrs T) (slot:Slot T name id) (hty:typeOf (.builtin id) = pure (.type "method_descriptor")) (hm:MtR X id r) (ho:PE X o to) (ha:PA X (e :: es) t)
  (hbase:attributeBase o name X.env (eval o X.env) = eval o X.env:=by rfl)
  (hfew:((backTo cpos (starEach (e :: es) X.env)).all (λx=>!x.1) && (backToKw cpos (keywordEach [] X.env)).all (λx=>x.1.isSome)
   && decide ((e :: es).length + ([]:List Keyword).length + (if ([]:List Keyword).isEmpty then 0 else 1) < 30)) = true:=by rfl)
  (hline:(apos.endLine == cpos.line) = true:=by rfl) (hs:starEach (e :: es) X.env = (false,eval e X.env) :: starEach es X.env:=by rfl) (hplain:(backTo cpos (starEach es X.env)).any (·.1) = false:=by rfl):
  PE X (.Call (.Attribute o name apos) (e :: es) [] cpos) (tBM X.K T r to t):=by
 intro pins s σ H Q I h;refine wpAny_Call_method_late hbase hfew hline rfl (thn (ho pins s σ H _ I h) λv s1 ⟨x,H1,I1,r1,ty,q1⟩=>?_);obtain ⟨h1,h2⟩:=Zuj I1 r1 ty;refine ⟨T,id,pa,slot,hty,h1,h2,?_⟩;have hA:=ha cpos pins s1 σ H1 _ I1 q1;rw [hs] at hA ⊢;refine Calls.callWith_builtin (by show (false || (backTo cpos (starEach es X.env)).any (·.1)) = false; rw [hplain] <;> rfl) (Calls.evalArgs_plain ?_);exact thn hA λus s2 ⟨vs,H2,I2,r2,q2⟩=>hm pins s2 σ H2 x vs v us Q I2 r1 r2 q2
end
def MtM (X:Cx) (id:String) (r:V->List V->Hp->VK->Prop):Prop:=
 ∀ (pins:List (Addr × Obj)) (s:Shared) (σ:St) (H:Hp) (x:V) (xs:List V) (v:Value) (us:List Value) (Q:VK),Inv X pins σ H s->RelV x v->Vals xs us->r x xs H Q->
  wpAny (model X.prog X.w) X.A (call (.builtin id) (v :: us)) (EP X pins σ Q) X.xe s
theorem Vals.one:∀ {x:V} {us:List Value},Vals [x] us->∃ u,us = [u]/\RelV x u
 | _,_,.cons r .nil=>⟨_,rfl,r⟩
theorem Vals.zero:∀ {us:List Value},Vals [] us->us = []
 | _,.nil=>rfl
theorem Vals.eraseIdx:∀ {xs:List V} {us:List Value} (i:Nat),Vals xs us->Vals (xs.eraseIdx i) (us.eraseIdx i)
 | _,_,_,.nil=>.nil
 | _,_,0,.cons _ t=>t
 | _,_,i + 1,.cons r t=>.cons r (Vals.eraseIdx i t)
theorem Vals.rep {xs:List V} {us:List Value} (h:Vals xs us):∀ k:Nat,Vals (List.replicate k xs).flatten (List.replicate k us).flatten
 | 0=>.nil
 | k + 1=>by
  rw [Jcq,Jcq,Jd1,Jd1];exact Vals.append h (Vals.rep h k)
theorem Zll {α:Type}:∀ (l:List α) (i:Nat),(l.eraseIdx i).length<=l.length
 | [],_=>Jag _
 | _ :: _,0=>Jfg _
 | _ :: r,i + 1=>Nat.succ_le_succ (Zll r i)
theorem Zlt (its:List Value):∀ (k:Nat) (acc:List Value),
  List.foldl (λx1 x2=>x1 ++ x2) acc.toArray (List.replicate k its.toArray) = (acc ++ (List.replicate k its).flatten).toArray
 | 0,acc=>by simp
 | k + 1,acc=>by
  have e:acc.toArray ++ its.toArray = (acc ++ its).toArray:=by simp
  have e2:(acc ++ its) ++ (List.replicate k its).flatten = acc ++ (List.replicate (k + 1) its).flatten:=by
   rw [Jcq,Jd1,List.append_assoc]
  rw [<- e2,<- Zlt its k (acc ++ its),<- e,Jcq,List.foldl_cons]
section
variable {X:Cx} {pins:List (Addr × Obj)} {σ:St} {H:Hp} {s:Shared} {l b:Addr} {xs ys zs:List V}
theorem Inv.lset {its its':List Value} {n:Nat} {f:Array Value->Array Value} {t':Nat} (I:Inv X pins σ H s) (hH:H l = some (.lst xs))
  (e:s.heap.get? l = some { cls:=.type "list",data:=.seq its.toArray n }) (hf:f its.toArray = its'.toArray) (hv:Vals ys its') (hz:ys.length<=sizeLine):
  Inv X pins σ (upd H l (.lst ys)) { s with heap:=s.heap.update l (Obj.mapSeq f),toks:=t' }:=by
 have q:=PySem.IsL.update e f;rw [hf] at q;refine I.write (x:=l) (e:=l) (by rw [hH]; exact trivial) (.inl rfl) (λb' u hb hu=>(Jcp s.heap (Obj.mapSeq f) (Jcg hb)).trans hu) ⟨_,q⟩ ?_;exact ⟨hz,its',_,hv,q⟩
theorem Inv.lnew {its:List Value} {t':Nat} (I:Inv X pins σ H s) (hv:Vals ys its) (hz:ys.length<=sizeLine):
  Inv X pins σ (upd H s.heap.objs.size (.lst ys)) { s with heap:=s.heap.push { cls:=.type "list",data:=.seq its.toArray },toks:=t' }:=
 I.laid (λ_ _ q=>Jai _ q) (Jag _) ⟨hz,its,0,hv,Ja5 _ rfl⟩
theorem Inv.fresh (I:Inv X pins σ H s):H s.heap.objs.size = none:=I.hok.fresh (Jag _)
theorem Inv.lstM (I:Inv X pins σ H s) (hH:H l = some (.lst xs)):xs.length<=sizeLine/\∃ (its:List Value) (n:Nat),Vals xs its/\xs.length = its.length/\s.heap.get? l = some { cls:=.type "list",data:=.seq its.toArray n }:=by
 obtain ⟨z,its,n,r,e⟩:=I.hok l _ hH;exact ⟨z,its,n,r,r.length,e⟩
theorem Zhv {n:Nat} (h:n<=sizeLine):Builtin.List.listTooLong n = false:=by
 unfold Builtin.List.listTooLong;exact Jb4 (by omega)
end
section
variable {X:Cx}
def Zmn:V->List V->Hp->VK->Prop:=λx vs H Q=>∃ l xs y,x = .ref l/\vs = [y]/\H l = some (.lst xs)/\xs.length < sizeLine/\Q .non (upd H l (.lst (xs ++ [y])))
theorem Zb1:MtM X "list.append" Zmn:=by
 intro pins s σ H x vs v us Q I rx rv h;obtain ⟨l,xs,y,rfl,rfl,hH,hz,q⟩:=h;cases rx;obtain ⟨u,rfl,ru⟩:=rv.one;obtain ⟨z,its,n,r,hl,e⟩:=I.lstM hH;refine Jfn F.slot_list_append ⟨_,e,rfl⟩ F.entry_list_append (F.args_list_append_2 _ _) (PySem.list_append l its.toArray n u (by rw [Jaq]; omega)) ⟨e,?_⟩;refine ⟨.non,_,I.lset (its':=its ++ [u]) hH e (by simp) (r.append (.cons ru .nil)) ?_,rfl,q⟩;rw [Jam,List.length_singleton];omega
def rExtend:V->List V->Hp->VK->Prop:=λx vs H Q=>∃ l b xs zs,x = .ref l/\vs = [.ref b]/\H l = some (.lst xs)/\H b = some (.lst zs)/\xs.length + zs.length<=sizeLine/\Q .non (upd H l (.lst (xs ++ zs)))
theorem Zlh:MtM X "list.extend" rExtend:=by
 intro pins s σ H x vs v us Q I rx rv h;obtain ⟨l,b,xs,zs,rfl,rfl,hH,hB,hz,q⟩:=h;cases rx;obtain ⟨u,rfl,ru⟩:=rv.one;cases ru;obtain ⟨z,its,n,r,hl,e⟩:=I.lstM hH;obtain ⟨z2,its2,n2,r2,hl2,e2⟩:=I.lstM hB;have hsz:its.toArray.size + its2.toArray.size<=sizeLine:=by rw [Jaq,Jaq]; omega
 have hlong:¬ (!its.toArray.isEmpty && Builtin.List.listTooLong (its.toArray.size + its2.toArray.size)) = true:=by
  rw [Zhv hsz,Bool.and_false];exact Jax
 refine Jfn F.slot_list_extend ⟨_,e,rfl⟩ F.entry_list_extend (F.args_list_extend_2 _ _)
  (AutoSeq1.list_extend_list_list_0 l its.toArray n b its2.toArray n2 hlong (by rw [Jaq]; omega) (by omega)) ⟨e,e2,?_⟩
 refine ⟨.non,_,I.lset (its':=its ++ its2) hH e (by simp) (r.append r2) ?_,rfl,q⟩;rw [Jam];omega
def Zup:V->List V->Hp->VK->Prop:=λx vs H Q=>∃ l xs i k y,x = .ref l/\vs = [.int i]/\H l = some (.lst xs)/\-(2 ^ 63)<=i/\i < 2 ^ 63/\seqIndex? i xs.length = some k/\xs[k]? = some y/\Q y (upd H l (.lst (xs.eraseIdx k)))
theorem Ztk:MtM X "list.pop" Zup:=by
 intro pins s σ H x vs v us Q I rx rv h;obtain ⟨l,xs,i,k,y,rfl,rfl,hH,h1,h2,hk,hy,q⟩:=h;cases rx;obtain ⟨u,rfl,ru⟩:=rv.one;obtain ⟨t,rfl⟩:=ru;obtain ⟨z,its,n,r,hl,e⟩:=I.lstM hH;obtain ⟨w,hw,rw'⟩:=r.get hy;refine Jfn F.slot_list_pop ⟨_,e,rfl⟩ F.entry_list_pop (F.args_list_pop_2 _ _)
  (MeetsSeq.list_pop_at l its.toArray n i t k w (fitsIndex_both h1 h2) (by rw [Jaq,<- hl]; exact hk) (by rw [<- Array.getElem?_toList]; exact hw) (by rw [Jaq]; omega)) ⟨e,?_⟩
 refine ⟨y,_,I.lset (its':=its.eraseIdx k) hH e ?_ (r.eraseIdx k) ?_,rw',q⟩
 .show its.toArray.eraseIdxIfInBounds k = (its.eraseIdx k).toArray;rw [List.eraseIdxIfInBounds_toArray]
 .have:=Zll xs k;omega
def rCat:R2:=λx y H Q=>∃ l b xs zs,x = .ref l/\y = .ref b/\H l = some (.lst xs)/\H b = some (.lst zs)/\xs.length + zs.length<=sizeLine/\∀ p,H p = none->Q (.ref p) (upd H p (.lst (xs ++ zs)))
theorem Zp5:OpR X (binaryOp .Add) rCat:=by
 intro pins s σ H x y v u Q I rx ry h;obtain ⟨l,b,xs,zs,rfl,rfl,hH,hB,hz,q⟩:=h;cases rx;cases ry;obtain ⟨z,its,n,r,hl,e⟩:=I.lstM hH;obtain ⟨z2,its2,n2,r2,hl2,e2⟩:=I.lstM hB;refine PySem.P.add_list e e2 ?_ (by rw [Jaq,Jaq]; omega);have ea:its.toArray ++ its2.toArray = (its ++ its2).toArray:=by simp
 rw [ea];exact ⟨.ref _,_,I.lnew (t':=s.toks) (r.append r2) (by rw [Jam]; omega),rfl,q _ I.fresh⟩
def rRep:R2:=λx y H Q=>∃ l k xs,x = .ref l/\y = .int k/\H l = some (.lst xs)/\-(2 ^ 63)<=k/\k < 2 ^ 63/\xs.length * k.toNat<=sizeLine /\
 ∀ p,H p = none->Q (.ref p) (upd H p (.lst (List.replicate k.toNat xs).flatten))
theorem Zqw {α:Type} (xs:List α) (k:Nat):(List.replicate k xs).flatten.length = k * xs.length:=by
 induction k with
 | zero=>simp
 | succ k ih=>rw [Jcq,Jd1,Jam,ih,Nat.succ_mul,Nat.add_comm]
theorem Zuu:OpR X (binaryOp .Mult) rRep:=by
 intro pins s σ H x y v u Q I rx ry h;obtain ⟨l,k,xs,rfl,rfl,hH,h1,h2,hz,q⟩:=h;cases rx;obtain ⟨t,rfl⟩:=ry;obtain ⟨z,its,n,r,hl,e⟩:=I.lstM hH;have hlen:its.toArray.size * k.toNat<=sizeLine:=by rw [Jaq,<- hl]; exact hz
 have hcap:¬ its.toArray.size * k.toNat > (2 ^ 63 - 1) / 8:=by
  have:(sizeLine:Nat)<=(2 ^ 63 - 1) / 8:=by decide
  omega
 have hfit:¬ (!Builtin.List.listFitsIndex k) = true:=by
  rw [fitsIndex_both h1 h2];exact Jax
 have hlong:¬ Builtin.List.listTooLong (its.toArray.size * k.toNat) = true:=by
  rw [Zhv hlen];exact Jax
 have hnew:List.foldl (λx1 x2=>x1 ++ x2) #[] (List.replicate (if its.toArray.isEmpty = true then 0 else k.toNat) its.toArray) = (List.replicate k.toNat its).flatten.toArray:=by
  have f0:∀ m:Nat,List.foldl (λx1 x2=>x1 ++ x2) #[] (List.replicate m its.toArray) = (List.replicate m its).flatten.toArray:=λm=>by
   have:=Zlt its m [];rw [List.nil_append] at this;exact this
  rw [f0];cases its with
  | nil=>simp
  | cons a r'=>rw [if_neg (by simp)]
 refine wpAny_binaryOp_repeat_ref (T:="list") (U:="int") (by decide) ⟨_,e,rfl⟩ (λs'=>typeIs_int s' k t) noFill_list_mul F.fills_int_mul F.slot_int_rmul repeat_list F.slot_int_index.lookup
  (Jfn F.slot_int_rmul (typeIs_int s k t) F.entry_int_rmul (F.args_int_rmul_2 _ _) (int___rmul___int_list k t l its.toArray n)
   ⟨e,rfl,⟨_,e,rfl⟩,Jfn F.slot_list_mul ⟨_,e,rfl⟩ F.entry_list_mul (F.args_list_mul_2 _ _) (AutoListH.list___mul___list_int_3 l its.toArray n k t hfit hcap hlong) ⟨e,?_⟩⟩)
 rw [hnew];exact ⟨.ref _,_,I.lnew (t':=s.toks) (r.rep k.toNat) (by rw [Zqw,Je3]; exact hz),rfl,q _ I.fresh⟩
end
section
variable {prog:Program} {w:World} {A:Around} {E:Value->Shared->Prop} {s:Shared}
theorem Zpd (its its2:List Value) (a c:Nat):its.toArray.extract 0 a ++ its2.toArray ++ its.toArray.extract c its.toArray.size = (its.take a ++ its2 ++ its.drop c).toArray:=by
 apply Array.toList_inj.mp
 first
  | (simp; exact Jds (by simp))
  | simp [Jds]
  | simp
end
section
variable {X:Cx}
end
end L2
namespace Att
open PySem PySem.W PySem.Calls PyProof.Rows
theorem Zir {P:Params} {h:Heap}:∀ (ns:List Int) (vs:List Value),WellAll P h vs (ns.map WData.int)->IntsAre vs ns:=by
 intro ns
 induction ns with
 | nil=>
  intro vs w;rw [List.map_nil] at w;cases w;exact .nil
 | cons n ns ih=>
  intro vs w;rw [List.map_cons] at w;cases w with
  | cons a b=>
   cases a;exact .cons _ _ (ih _ b)
theorem Zpr {l:OpenLaw} {n:Nat} (hn:l.most = some n) {P:Params} {h:Heap} {args:List WData} {vals:List Value}
  (hpre:l.row.toRowW.claim.pre args = true) (hwl:WellAll P h vals args):
  ∃ a vs ns,vals = [Value.ref a]/\args = [WData.list (ns.map WData.int)]/\h.get? a = some { cls:=.type "list",data:=.seq vs.toArray }/\IntsAre vs ns/\ns.length<=n:=by
 have hsh:WShape.hasAll [] args [.list .int] = true:=(pre_splitW hpre).1;have hc:l.pre.holds [] { args:=args } = true:=(pre_splitW hpre).2;obtain ⟨d,r,rfl,h1,h2⟩:=hasAllW_cons hsh;obtain rfl:=hasAllW_nil h2;obtain ⟨xs,rfl,h3⟩:=hasW_list h1;obtain ⟨ns,rfl⟩:=items_int h3;have hlen:ns.length<=n:=by
  unfold OpenLaw.pre at hc;have h4:(WTm.not (.lt (.lit (.int (n:Int))) (.len (.arg 0)))).holds [] { args:=[.list (ns.map .int)] } = true:=by
   have h4:=(holds_andW hc).1;rw [hn] at h4;exact h4
  have h5:=condW_of h4 (w_not (w_lt w_lit (w_len_list (w_arg rfl))));rw [Jab] at h5;refine Nat.le_of_not_lt λq=>?_;have q':(n:Int) < ((ns.length:Nat):Int):=by omega
  first
   | (rw [Jbc q'] at h5; exact absurd h5 (by decide))
   | (simp at h5; omega)
 cases hwl with
 | cons w1 w2=>
  cases w2;cases w1 with
  | list ho hall=>exact ⟨_,_,ns,rfl,rfl,ho,Zir ns _ hall,hlen⟩
theorem Zpx (l:OpenLaw) (args:List WData):l.row.toRowW.claim.post args (.bool true) args = true:=
 postW_of (r:=l.row.toRowW) (X:=(true == true))
  (show WShape.has [] (.bool true) .bool = true by first | rfl | decide | simp [WShape.has,WShape.arms,WShape.armsAll])
  (show (WTm.eq .res (.lit (.bool true))).value [] { args:=args,res:=some (.bool true),after:=args } = some (.bool (true == true)) from w_eq_bool (w_res rfl) w_lit) rfl
theorem attach_call {l:OpenLaw} {n:Nat} {q:Program} {loose:List Str} {XP:(Str->Option Value)->Heap->Prop} {YP:World->Heap->Prop} {d:DefRec}
  (hn:l.most = some n) (hdf:d.params.defaults = [])
  (call:∀ (w:World) (s₀ s₁:Shared) (mg mb:Str->Option Value) (fa:Addr) (o:Obj) (pm cd doc:Value) (a:Addr) (vs:List Value) (ns:List Int),
   Ground q loose [] XP w s₀ mg mb s₁.heap->YP w s₁.heap->
   s₁.heap.get? fa = some o->o.data = .func (docDef d.name d.params d.body d.scope pm cd doc)->s₁.heap.CodeRec cd d.name->mg d.name = some (.ref fa)->
   s₁.heap.get? a = some { cls:=.type "list",data:=.seq vs.toArray }->IntsAre vs ns->ns.length<=n->s₁.gens = #[]->
   codeAny (model l.prog w) callerA (.call (.ref fa) ⟨[.ref a],[]⟩) (λr s'=>r = .ok (.ret (.bool true))/\OldK s₁.heap s'.heap/\s'.os = s₁.os/\AllBare s'.gens) s₁):
  WalkO q loose XP YP l.row.toRowW d [] (λf vs=>PySem.call f vs):=by
 intro w s₀ s₁ mg mb G Y fa o pm cd doc dV kV ho hd hcd hD hmg hg args vals as hpre hlay hrd hwl hlo;obtain rfl:dV = .none:=Dflts.none hD hdf;obtain rfl:kV = .none:=Dflts.noKw hD;obtain ⟨a,vs,ns,rfl,rfl,hobj,hints,hlen⟩:=Zpr hn hpre hwl;refine enter_call (Je1 (call w s₀ s₁ mg mb fa o pm cd doc a vs ns G Y ho (fd_plain hd) hcd hmg hobj hints hlen hg) λr s' hq=>?_);obtain ⟨rfl,h2,h3,h4⟩:=hq;exact ⟨.inl ⟨.bool true,.bool true,[],rfl,λ_=>rfl,.bool true,Zpx l _,λ_=>⟨List.Pairwise.nil,λ_ hm=>(nomatch hm)⟩⟩,h2,h3,h4⟩
section
variable {prog:Program} {w:World} {A:Around} {E:Value->Shared->Prop} {s:Shared} {K:Frag}
end
end Att
namespace L2
open PySem PySem.Spec PyProof.Rows
theorem Zkq:∀ {vs:List Value} {ns:List Int},IntsAre vs ns->Vals (ns.map V.int) vs
 | _,_,.nil=>.nil
 | _,_,.cons n t h=>.cons ⟨t,rfl⟩ (Zkq h)
end L2
namespace L2
open PySem PySem.Spec PyProof.Rows
def Zq9 (s:Stmt) (j:Nat):Stmt:=match s with
 | .ClassDef _ _ _ body _ _ _ _ _ _ _=>body.getD j (.Pass ⟨0,0,0,0⟩)
 | _=>.Pass ⟨0,0,0,0⟩
noncomputable def Zam (s:Stmt):Arguments:=match s with
 | .FunctionDef _ a _ _ _ _ _ _ _ _=>a
 | _=>{ posonlyargs:=[],args:=[],vararg:=none,kwonlyargs:=[],kw_defaults:=[],kwarg:=none,defaults:=[] }
def Zak (s:Stmt):List Stmt:=match s with
 | .FunctionDef _ _ b _ _ _ _ _ _ _=>b
 | _=>[]
noncomputable def Zad (s:Stmt):Scope:=match s with
 | .FunctionDef _ _ _ _ _ _ sc _ _ _=>sc
 | _=>{ kind:=.function,names:=[],isGenerator:=false,isCoroutine:=false }
abbrev CX0:CXT:=λ_ _ _ _ _ _=>False
abbrev E0:XK:=λ_ _ _=>False
theorem pass0 {X:Cx}:Zjx CX0 X E0:=λ_ _ _ _ _ _ _ h=>h.elim
structure Fun (K:PySem.W.Frag) (x qual:Str) (st:Stmt) (f:Addr) (fd:FuncData):Prop where
 ex:∃ (oc:Value) (od:Option Addr) (kV doc pm:Value) (an:Option Addr) (cdv ct:Value) (osl:Array (Option Value)),
  fd = PySem.W.fnOf x qual (Zam st) (Zak st) (Zad st) .none kV doc pm an cdv ct/\K.lookup f = some ⟨oc,od,.func fd,osl⟩/\PySem.W.codeIn K cdv qual = true
 kp:PySem.W.keepIn K (.ref f) = true
section
variable {P:Program} {w:World} {K:PySem.W.Frag} {mg:Str->Option Value} {base:Heap}
theorem Fun.ok {x qual:Str} {st:Stmt} {f:Addr} {fd:FuncData} {N ps:List Str} {k:Nat} {sp:Sp} (F:Fun K x qual st f fd) (S:FnScope N ps (Zad st)) (len:∀ vs H Q E,sp vs H Q E->vs.length = ps.length)
  (hbody:∀ (cdv:Value) (A:Around) (outer:List Env) (s:Shared) (H:Hp) (vs:List V) (Q:VK) (E:XK),Room k (A.deeper (envOfC qual (Zad st) s.heap.objs.size f cdv))->sp vs H Q E->
   ∃ t,PSs (Zt4 CX0 P w K mg base N qual (Zad st) f cdv A outer s H E).nox (Zak st) t/\t { nx:=λ_ H'=>Q .non H',rt:=Q } (start N vs) H):FnOk P w K mg base CX0 (k + 1) f fd ps sp:=by
 obtain ⟨oc,od,kV,doc,pm,an,cdv,ct,osl,rfl,lk,hcd⟩:=F.ex;refine fn_of lk hcd S len λA outer s H vs Q E hr hsp=>?_;obtain ⟨t,h,q⟩:=hbody cdv A outer s H vs Q E hr hsp;exact ⟨t,h.nox,q⟩
theorem Fun.binds {x qual:Str} {st:Stmt} {f:Addr} {fd:FuncData} {ps:List Str} (F:Fun K x qual st f fd)
  (h:∀ (kV doc pm:Value) (an:Option Addr) (cdv ct:Value) (us:List Value),us.length = ps.length->bindArgs (PySem.W.fnOf x qual (Zam st) (Zak st) (Zad st) .none kV doc pm an cdv ct) ⟨us,[]⟩ = pure (ps.zip us)):Binds K fd ps []:=by
 obtain ⟨oc,od,kV,doc,pm,an,cdv,ct,osl,rfl,lk,hcd⟩:=F.ex;exact .all (h kV doc pm an cdv ct)
theorem Zaw {x qual:Str} {st:Stmt} {f:Addr} {oc:Value} {od an:Option Addr} {osl:Array (Option Value)} {kV doc pm cdv ct:Value} (l:K.lookup f = some ⟨oc,od,.func (PySem.W.fnOf x qual (Zam st) (Zak st) (Zad st) .none kV doc pm an cdv ct),osl⟩)
  (c:PySem.W.codeIn K cdv qual = true) (k:PySem.W.keepIn K (.ref f) = true):Fun K x qual st f (PySem.W.fnOf x qual (Zam st) (Zak st) (Zad st) .none kV doc pm an cdv ct):=⟨⟨oc,od,kV,doc,pm,an,cdv,ct,osl,rfl,l,c⟩,k⟩
end
theorem Zau {n:Nat} (h:n<=1000):n < sizeLine:=Jbo h (by decide)
section
variable {X:Cx}
theorem pv (i:Nat) {x:Str} {pos:Pos} (hN:X.N[i]? = some x:=by rfl) (hv:Vis X.env.scope x:=by first | exact Or.inl rfl | exact Or.inr (Or.inl rfl) | exact Or.inr (Or.inr rfl)) (hd:(x == ("__debug__" : Str)) = false:=by decide)
  (hcd:(x == ("__classdict__" : Str)) = false:=by decide):PE X (.Name x pos) (Zi6 i):=pe_var hN hv hd hcd
end
theorem Znu {A B:Prop} (h:B):if false = true then A else B:=by
 rw [if_neg Jax];exact h
theorem iteT {A B:Prop} (h:A):if true = true then A else B:=by
 rw [if_pos rfl];exact h
theorem Zdz {c A B:Prop} [Decidable c] (h1:c->A) (h2:¬ c->B):if c then A else B:=by
 by_cases h:c
 .rw [if_pos h];exact h1 h
 .rw [if_neg h];exact h2 h
def Same (H H':Hp):Prop:=∀ b o,H b = some o->H' b = some o
theorem Same.refl (H:Hp):Same H H:=λ_ _ h=>h
theorem Same.trans {H H1 H2:Hp} (a:Same H H1) (b:Same H1 H2):Same H H2:=λc o h=>b c o (a c o h)
theorem Same.free {H H':Hp} (e:Same H H') {l:Addr} (h:H' l = Option.none):H l = Option.none:=by
 cases q:H l with
 | none=>rfl
 | some o=>
  rw [e l o q] at h;cases h
theorem Same.seq {K:PySem.W.Frag} {H H':Hp} {a:Addr} {xs:List V} (e:Same H H') (h:SqL K H a xs):SqL K H' a xs:=by
 rcases h with (h | ⟨o,h⟩) | h
 .exact .inl (.inl (e _ _ h))
 .exact .inl (.inr ⟨o,e _ _ h⟩)
 .exact .inr h
theorem Zua {x:Str} {c:Addr}:∀ (names:List (Str × NameKind)) (n:Nat) (acc:List (Str × Addr)),(cellsFrom n names acc).lookup x = some c->n<=c\/acc.lookup x = some c
 | [],_,_,h=>.inr h
 | (y,k) :: r,n,acc,h=>by
  unfold cellsFrom at h;split at h
  .rcases Zua r (n + 1) _ h with z | z
   .exact .inl (Jcb z)
   .rw [Jba] at z;cases e:x == y with
    | true=>rw [e] at z; cases z; exact .inl (Jag _)
    | false=>rw [e] at z; exact .inr z
  .exact Zua r n acc h
theorem Zru {x:Str} {c:Addr}:∀ (names:List (Str × NameKind)) (n:Nat) (acc:List (Str × Addr)),(x,NameKind.cell) ∈ names->(cellsFrom n names acc).lookup x = some c->n<=c
 | [],_,_,m,_=>nomatch m
 | (y,k) :: r,n,acc,m,h=>by
  unfold cellsFrom at h;split at h
  .by_cases m':(x,NameKind.cell) ∈ r
   .exact Jcb (Zru r (n + 1) _ m' h)
   .have e:(x,NameKind.cell) = (y,k):=(Jb8.mp m).resolve_right m';cases e;rcases Zua r (n + 1) _ h with z | z
    .exact Jcb z
    .rw [Jba,beq_self_eq_true] at z;cases z;exact Jag _
  .rename_i hk
   have m':(x,NameKind.cell) ∈ r:=by
    rcases Jb8.mp m with e | m'
    .cases e; exact absurd rfl hk
    .exact m'
   exact Zru r n acc m' h
theorem Zrv {x:Str}:∀ {names:List (Str × NameKind)} {n:Nat} {acc:List (Str × Addr)},(x,NameKind.cell) ∉ names->(cellsFrom n names acc).lookup x = acc.lookup x
 | [],_,_,_=>rfl
 | (y,k) :: r,n,acc,h=>by
  unfold cellsFrom;have hr:(x,NameKind.cell) ∉ r:=λm=>h (Jcc _ m);split
  .rename_i hk
   have hy:(x == y) = false:=by
    cases e:x == y with
    | false=>rfl
    | true=>
     exfalso;refine h ?_;rw [Jbx.mp e,Jbx.mp hk];exact Jc6
   rw [Zrv hr,Jba,hy]
  .exact Zrv hr
theorem Zrw:∀ (names:List (Str × NameKind)) (n:Nat) (acc:List (Str × Addr)),(∀ x c,acc.lookup x = some c->c < n)->(∀ x y c,acc.lookup x = some c->acc.lookup y = some c->x = y)->
  ∀ x y c,(cellsFrom n names acc).lookup x = some c->(cellsFrom n names acc).lookup y = some c->x = y
 | [],_,_,_,hi=>hi
 | (z,k) :: r,n,acc,hl,hi=>by
  unfold cellsFrom;split
  .refine Zrw r (n + 1) _ (λx c h=>?_) (λx y c h1 h2=>?_)
   .rw [Jba] at h;cases e:x == z with
    | true=>rw [e] at h; cases h; exact Jel _
    | false=>rw [e] at h; exact Jcl (hl x c h)
   .rw [Jba] at h1 h2;cases e1:x == z with
    | true=>
     rw [e1] at h1;cases h1;cases e2:y == z with
     | true=>rw [Jbx.mp e1,Jbx.mp e2]
     | false=>rw [e2] at h2; exact absurd (hl y _ h2) (Jbs _)
    | false=>
     rw [e1] at h1;cases e2:y == z with
     | true=>rw [e2] at h2; cases h2; exact absurd (hl x _ h1) (Jbs _)
     | false=>rw [e2] at h2; exact hi x y c h1 h2
  .exact Zrw r n acc hl hi
theorem Zm9 {x:Str} {c:Addr}:∀ (names:List (Str × NameKind)) (h:Heap) (acc:List (Str × Addr)),(cellsFrom h.objs.size names acc).lookup x = some c->(pushCells h names).IsCell c none\/acc.lookup x = some c
 | [],_,_,z=>.inr z
 | (y,k) :: r,h,acc,z=>by
  unfold cellsFrom at z;unfold pushCells;split at z
  .rename_i hk
   rw [if_pos hk];have z':(cellsFrom (h.push { cls:=.type "cell",data:=.cell none }).objs.size r ((y,h.objs.size) :: acc)).lookup x = some c:=by rw [Jcz]; exact z
   rcases Zm9 r _ _ z' with q | q
   .exact .inl q
   .rw [Jba] at q;cases e:x == y with
    | true=>
     rw [e] at q;cases q;exact .inl ⟨_,pushCells_keeps _ _ _ _ (Ja5 _ rfl),rfl⟩
    | false=>rw [e] at q; exact .inr q
  .rename_i hk
   rw [if_neg hk];exact Zm9 r h acc z
theorem Zm8 {env:Env} (f:Str × NameKind->List (Str × Addr)->Sem (ForInStep (List (Str × Addr))))
  (hf:∀ name kind cs,f (name,kind) cs = if kind == .free then (do let a <- cellOf env name; pure (.yield ((name,a) :: cs))) else pure (.yield cs)):
  ∀ (names:List (Str × NameKind)) (acc:List (Str × Addr)),(∀ y ∈ names,y.2 = .free->∃ c,env.cells.lookup y.1 = some c)->(∀ x c,acc.lookup x = some c->env.cells.lookup x = some c)->
  ∃ cl,forIn names acc f = pure cl/\(∀ x c,cl.lookup x = some c->env.cells.lookup x = some c)/\(∀ y ∈ names,y.2 = .free->∃ c,cl.lookup y.1 = some c)/\∀ x c,acc.lookup x = some c->∃ c',cl.lookup x = some c'
 | [],acc,_,ha=>⟨acc,rfl,ha,(λ_ m=>nomatch m),λx c e=>⟨c,e⟩⟩
 | (y,k) :: r,acc,h,ha=>by
  rw [List.forIn_cons,hf];have hr:∀ y ∈ r,y.2 = NameKind.free->∃ c,env.cells.lookup y.1 = some c:=λz m=>h z (Jcc _ m);by_cases hk:(k == NameKind.free) = true
  .obtain ⟨c,hc⟩:=h (y,k) Jc6 (Jbx.mp hk);have e:cellOf env y = pure c:=by unfold cellOf; rw [hc]
   rw [if_pos hk,e,pure_bind,pure_bind];have ha':∀ x d,((y,c) :: acc).lookup x = some d->env.cells.lookup x = some d:=λx d e=>by
    rw [Jba] at e;cases e1:x == y with
    | true=>rw [e1] at e; cases e; rw [Jbx.mp e1]; exact hc
    | false=>rw [e1] at e; exact ha x d e
   obtain ⟨cl,q1,q2,q3,q4⟩:=Zm8 f hf r ((y,c) :: acc) hr ha';refine ⟨cl,q1,q2,λz m hz=>?_,λx d e=>?_⟩
   .rcases Jb8.mp m with e | m
    .subst e;exact q4 y c (by rw [Jba,beq_self_eq_true])
    .exact q3 z m hz
   .by_cases e1:(x == y) = true
    .exact q4 x c (by rw [Jba,e1])
    .exact q4 x d (by rw [Jba]; simp only [e1]; exact e)
  .rw [if_neg hk,pure_bind];obtain ⟨cl,q1,q2,q3,q4⟩:=Zm8 f hf r acc hr ha;refine ⟨cl,q1,q2,λz m hz=>?_,q4⟩;rcases Jb8.mp m with e | m
   .subst e; exact absurd (Jbx.mpr hz) hk
   .exact q3 z m hz
theorem Zkj {scope:Scope} {env:Env} (h:∀ y ∈ scope.names,y.2 = .free->∃ c,env.cells.lookup y.1 = some c):
  ∃ cl,closureFor scope env = pure cl/\(∀ x c,cl.lookup x = some c->env.cells.lookup x = some c)/\∀ y ∈ scope.names,y.2 = .free->∃ c,cl.lookup y.1 = some c:=by
 obtain ⟨cl,q1,q2,q3,_⟩:=Zm8 (env:=env) (λx cs=>if x.2 == .free then (do let a <- cellOf env x.1; pure (.yield ((x.1,a) :: cs))) else pure (.yield cs)) (λ_ _ _=>rfl) scope.names [] h (λ_ _ e=>nomatch e);refine ⟨cl,?_,q2,q3⟩;unfold closureFor;have e:(λ(x:Str × NameKind) (r:List (Str × Addr))=>(match x with
   | (name,kind)=>if (kind == NameKind.free) = true then (do let __do_lift <- cellOf env name; pure (ForInStep.yield ((name,__do_lift) :: r))) else pure (ForInStep.yield r):Sem (ForInStep (List (Str × Addr))))) =
   λx cs=>if x.2 == .free then (do let a <- cellOf env x.1; pure (.yield ((x.1,a) :: cs))) else pure (.yield cs):=by
  funext x cs
  rfl
 have q:(forIn scope.names ([]:List (Str × Addr)) λ(x:Str × NameKind) (r:List (Str × Addr))=>(match x with
   | (name,kind)=>if (kind == NameKind.free) = true then (do let __do_lift <- cellOf env name; pure (ForInStep.yield ((name,__do_lift) :: r))) else pure (ForInStep.yield r):Sem (ForInStep (List (Str × Addr))))) = pure cl:=by
  rw [e]; exact q1
 simpa using q
theorem Zhg {M:Model} {A:Around} {E:Value->Shared->Prop} {s:Shared} {scope:Scope} {globals:Addr} {cl:List (Str × Addr)} {qual:Str} {env:Env} {Q:Env->Shared->Prop}
  (hQ:∀ h',h'.Ns s.heap.objs.size (λ_=>none)->(∀ b o,s.heap.get? b = some o->h'.get? b = some o)->
   (∀ x c,(cellsFrom (s.heap.objs.size + 1) scope.names cl).lookup x = some c->h'.IsCell c none\/cl.lookup x = some c)->
   Q { scope,locals:=s.heap.objs.size,globals,cells:=cellsFrom (s.heap.objs.size + 1) scope.names cl,qual,func:=none,code:=env.code,frame:=env.frame,builtins:=env.builtins } { s with heap:=h' }):
  wpAny M A (newFunctionEnv scope globals cl [] qual none .none (some env)) Q E s:=by
 simp only [newFunctionEnv,Option.isSome_some,Jdf];refine Jaf (wpAny_alloc ?_);refine Jaf (wpAny_layCells _ (λname kind cells=>by cases hkc:kind == NameKind.cell <;> simp [hkc]) _ _ _ _ ?_);have hsz:(s.heap.push { cls:=.type "dict",data:=.dict #[] }).objs.size = s.heap.objs.size + 1:=Jcz ..;have q:=hQ (pushCells (s.heap.push { cls:=.type "dict",data:=.dict #[] }) scope.names) ((Heap.Ns.new s.heap (.type "dict")).keeps (pushCells_keeps _ _)) (λb o e=>pushCells_keeps _ _ b o (Jai _ e))
  (λx c e=>Zm9 scope.names (s.heap.push { cls:=.type "dict",data:=.dict #[] }) cl (by rw [hsz]; exact e))
 show wpAny _ _ _ _ _ _;rw [show ({ s with heap:=s.heap.push { cls:=.type "dict",data:=.dict #[] } }:Shared).heap.objs.size = s.heap.objs.size + 1 from hsz];exact Jaf (Jan (Jan q))
theorem Zhb {env:Env} {x:Str}:∀ {names:List (Str × NameKind)},names.lookup x = some .free->
  (names.map λ(n,k)=>if (k == NameKind.free && env.scope.kind == .function && env.kindOf n == some .cell) then (n,NameKind.cell) else (n,k)).lookup x = some .cell \/
  (names.map λ(n,k)=>if (k == NameKind.free && env.scope.kind == .function && env.kindOf n == some .cell) then (n,NameKind.cell) else (n,k)).lookup x = some .free
 | [],h=>by simp at h
 | (n,k) :: r,h=>by
  have ih:=@Zhb env x r;show List.lookup x ((if (k == NameKind.free && env.scope.kind == .function && env.kindOf n == some .cell) = true then (n,NameKind.cell) else (n,k)) :: _) = _\/List.lookup x ((if (k == NameKind.free && env.scope.kind == .function && env.kindOf n == some .cell) = true then (n,NameKind.cell) else (n,k)) :: _) = _;cases hx:x == n with
  | true=>
   simp only [Jba,hx] at h;cases h;split <;> simp [Jba,hx]
  | false=>
   simp only [Jba,hx] at h;split <;> (simp only [Jba,hx]; exact ih h)
theorem Zfb {env:Env} {x:Str} {kd:NameKind}:∀ {names:List (Str × NameKind)},
  (names.map λ(n,k)=>if (k == NameKind.free && env.scope.kind == .function && env.kindOf n == some .cell) then (n,NameKind.cell) else (n,k)).lookup x = some kd->
  names.lookup x = some kd\/names.lookup x = some .free
 | [],h=>by simp at h
 | (n,k) :: r,h=>by
  have ih:=@Zfb env x kd r;have h':List.lookup x ((if (k == NameKind.free && env.scope.kind == .function && env.kindOf n == some .cell) = true then (n,NameKind.cell) else (n,k)) :: (r.map λ(n,k)=>if (k == NameKind.free && env.scope.kind == .function && env.kindOf n == some .cell) then (n,NameKind.cell) else (n,k))) = some kd:=h;cases hx:x == n with
  | true=>
   by_cases hc:(k == NameKind.free && env.scope.kind == .function && env.kindOf n == some .cell) = true
   .have hk:k = .free:=by
     have:=(Jb7 _ _ ▸ (Jb7 _ _ ▸ hc).1).1;exact Jbx.mp this
    subst hk;exact .inr (by simp [Jba,hx])
   .rw [if_neg hc] at h';simp only [Jba,hx] at h';cases h';exact .inl (by simp [Jba,hx])
  | false=>
   have h2:List.lookup x (r.map λ(n,k)=>if (k == NameKind.free && env.scope.kind == .function && env.kindOf n == some .cell) then (n,NameKind.cell) else (n,k)) = some kd:=by
    split at h' <;> simpa only [Jba,hx] using h'
   rcases ih h2 with z | z
   .exact .inl (by simp only [Jba,hx]; exact z)
   .exact .inr (by simp only [Jba,hx]; exact z)
noncomputable def Zeq (X:Cx) (N:List Str) (scope:Scope) (cl:List (Str × Addr)) (s:Shared) (H:Hp) (fp:List Addr):Cx where
 prog:=X.prog
 w:=X.w
 K:=X.K
 mg:=X.mg
 base:=X.base
 A:=X.A
 N:=N
 s₀:=s
 H₀:=H
 env:={ scope:=relabel scope X.env,locals:=s.heap.objs.size,globals:=X.env.globals,cells:=cellsFrom (s.heap.objs.size + 1) scope.names cl,qual:=X.env.qual,func:=none,code:=X.env.code,frame:=X.env.frame,builtins:=X.env.builtins }
 outer:=X.stack
 stack:=X.stack
 ex:=fp
 fn:=λx=>scope.names.lookup x == some .cell
 calm:=X.calm
 pn:=[]
 xe:=λ_ _=>False
structure BlScope (X:Cx) (scope:Scope) (own:List Str) (fr:List (Str × Nat)):Prop where
 kind:scope.kind = .function
 free:∀ y ∈ scope.names,y.2 = .free->X.env.scope.names.lookup y.1 = some .cell\/X.env.scope.names.lookup y.1 = some .free
 loc:∀ y ∈ scope.names,y.2 = .local->scope.names.lookup y.1 = some .local
 look:∀ y ∈ scope.names,scope.names.lookup y.1 = some y.2
 cap:∀ y ∈ fr,scope.names.lookup y.1 = some .free/\X.N[y.2]? = some y.1
def Zgr (k:Nat) (fr:List (Str × Nat)) (σ:St):St:=List.replicate k none ++ fr.map λy=>(σ[y.2]?).getD none
def Zd6 (own:List Str) (fr:List (Str × Nat)):List Str:=own ++ fr.map (·.1)
section
variable {X:Cx} {pins:List (Addr × Obj)} {σ:St} {H:Hp} {s:Shared}
theorem Zlq {scope:Scope} {own:List Str} {fr:List (Str × Nat)} {cl:List (Str × Addr)} {fp:List Addr} {h':Heap} (I:Inv X pins σ H s) (B:BlScope X scope own fr)
  (hcl:∀ x c,cl.lookup x = some c->X.env.cells.lookup x = some c) (hcl2:∀ y ∈ scope.names,y.2 = .free->∃ c,cl.lookup y.1 = some c)
  (hfp:∀ b ∈ fp,FpOk X pins H b) (hfo:∀ b ∈ fp,∃ o,s.heap.get? b = some o)
  (hn:h'.Ns s.heap.objs.size (λ_=>none)) (hk:∀ b o,s.heap.get? b = some o->h'.get? b = some o)
  (hc:∀ x c,(cellsFrom (s.heap.objs.size + 1) scope.names cl).lookup x = some c->h'.IsCell c none\/cl.lookup x = some c):
  Inv (Zeq X (Zd6 own fr) scope cl s H fp) [] (Zgr own.length fr σ) H { s with heap:=h' }:=by
 have clt:∀ x c,cl.lookup x = some c->c < s.heap.objs.size:=λx c e=>by
  obtain ⟨v,z⟩:=I.cell x c (hcl x c e);exact z.lt
 have ownC:∀ x c,(cellsFrom (s.heap.objs.size + 1) scope.names cl).lookup x = some c->s.heap.objs.size + 1<=c\/cl.lookup x = some c:=λx c e=>Zua _ _ _ e;have bsz:X.base.objs.size<=s.heap.objs.size:=Jat I.ok.bsz I.sz;refine ⟨⟨I.ok.mod,B.kind,I.ok.glob,I.ok.blt,Jag _,?_,?_,?_,I.ok.hd,I.ok.frames,.inl rfl,?_,I.bs,bsz,?_,?_,I.stack,I.stkFree,I.ok.top⟩,rfl,I.bare,Un.kept hk,⟨_,hn,?_⟩,?_,I.hok.fresh (Jag _),?_,?_,I.hok.kept hk,?_⟩
 .exact Zrw _ _ _ (λx c e=>Jcl (clt x c e)) λx y c e1 e2=>I.ok.inj x y c (hcl x c e1) (hcl y c e2)
 .intro x hx;have hx:(relabel scope X.env).names.lookup x = some .cell\/(relabel scope X.env).names.lookup x = some .free:=hx;have q:scope.names.lookup x = some .cell\/scope.names.lookup x = some .free:=by
   rcases hx with z | z
   .exact Zfb z
   .exact (Zfb z).elim .inr .inr
  refine Jd7.mp (Jdr scope.names _ _ ?_);rcases q with z | z
  .exact .inl z
  .obtain ⟨c,e⟩:=hcl2 _ (Jbl z) rfl;exact .inr (by rw [e]; rfl)
 .intro x c hf e;have hf:(scope.names.lookup x == some .cell) = true:=hf;exact Jcb (Zru _ _ _ (Jbl (Jbx.mp hf)) e)
 .intro b hb;obtain ⟨o,ho⟩:=hfo b hb;refine ⟨Ja6 (Jak ho),λx c e=>?_⟩;rcases ownC x c e with z | z
  .intro q;subst q;exact absurd (Ja0 (Jak ho) (Jcb z)) (Jbs _)
  .exact (hfp b hb).2.2.2.2.1 x c (hcl x c z)
 .intro b o e hb;rcases (hfp b hb).2.2.2.1 with z | z
  .exact I.ok.noex b o e z
  .exact absurd (Ja0 (Jak e) (Jat I.ok.bsz z)) (Jbs _)
 .intro b hb z;rcases Jb8.mp (I.stkSub b z) with q | q
  .exact (hfp b hb).2.1 q
  .exact (hfp b hb).2.2.1 q
 .intro i x v h1 h2 h3;have h1:(Zd6 own fr)[i]? = some x:=h1;unfold Zd6 at h1;unfold Zgr at h2;by_cases hi:i < own.length
  .rw [Jbd (by rw [Ja9]; exact hi),Jbw,if_pos hi] at h2;cases h2
  .have hi':own.length<=i:=Nat.le_of_not_lt hi;rw [Jbb hi',Jad] at h1;rw [Jbb (by rw [Ja9]; exact hi'),Ja9,Jad] at h2;cases e:fr[i - own.length]? with
   | none=>rw [e] at h1; cases h1
   | some y=>
    rw [e] at h1 h2;have hy1:y.1 = x:=Jbp h1;have hy2:(σ[y.2]?).getD none = some v:=Jbp h2;obtain ⟨c1,c2⟩:=B.cap y (Jae e);rw [hy1] at c1 c2;have hs:σ[y.2]? = some (some v):=by
     cases e2:σ[y.2]? with
     | none=>rw [e2] at hy2; cases hy2
     | some o=>rw [e2] at hy2; cases o with
      | none=>cases hy2
      | some w=>cases hy2; rfl
    obtain ⟨m,hm,hl⟩:=I.loc;have hfree:=B.free _ (Jbl c1) rfl;obtain ⟨u,r,l⟩:=hl y.2 x v c2 hs (hfree.elim (λz=>.inr (.inl z)) λz=>.inr (.inr z));refine ⟨u,r,?_⟩;obtain ⟨k,c,e3,z⟩:(X.env.kindOf x = some .cell\/X.env.kindOf x = some .free)/\∃ c,X.env.cells.lookup x = some c/\s.heap.IsCell c (some u):=by
     rcases l with ⟨k,_⟩ | q
     .have k:X.env.scope.names.lookup x = some .local:=k;rcases hfree with z | z <;> (rw [z] at k; cases k)
     .exact q
    obtain ⟨d,hd⟩:=hcl2 _ (Jbl c1) rfl;have hd':=hcl x d hd;rw [e3] at hd';cases hd';obtain ⟨c',hc'⟩:∃ c',(cellsFrom (s.heap.objs.size + 1) scope.names cl).lookup x = some c':=Jd7.mp (Jdr scope.names _ _ (.inr (by rw [hd]; rfl)));have hcc:c' = c:=by
     rcases ownC x c' hc' with q | q
     .-- an own cell of that name: it is free,so no
      exfalso;have:(x,NameKind.cell) ∉ scope.names:=λm=>by
       have:=B.look _ m;rw [c1] at this;cases this
      exact absurd hc' (by
       rw [Zrv this];intro z;rw [hd] at z;cases z;exact absurd (clt x _ hd) (Nat.not_lt.mpr (Jcb q)))
     .rw [hd] at q; cases q; rfl
    subst hcc;refine .inr ⟨?_,c',hc',z.keeps hk⟩;exact Zhb c1
 .intro x c e;rcases hc x c e with z | z
  .exact ⟨_,z⟩
  .obtain ⟨v,q⟩:=I.cell x c (hcl x c z);exact ⟨v,q.keeps hk⟩
 .intro x c e;rcases ownC x c e with z | z
  .exact I.hok.fresh (Jcb z)
  .exact I.freeC x c (hcl x c z)
 .intro p hp;exact absurd (show p ∈ ([]:List (Addr × Obj)) from hp) (by simp)
 .show (Zgr _ _ _).length = (Zd6 _ _).length;unfold Zgr Zd6;simp
end
def PTs (X:Cx) (ifs:List Expr) (t:TT):Prop:=
 ∀ (pins:List (Addr × Obj)) (s:Shared) (σ:St) (H:Hp) (Q:Bool->Hp->Prop),Inv X pins σ H s->t σ H Q->
  wpAny (model X.prog X.w) X.A (forIn ifs true λc r=>if r = true then do let ok <- isTrue c X.env (eval c X.env); pure (ForInStep.yield ok) else pure (ForInStep.yield r)) (TP X pins σ Q) X.xe s
def Zhq:TT:=λ_ H Q=>Q true H
theorem Za1 {X:Cx}:PTs X [] Zhq:=λpins s σ H Q I h=>wpAny_tests_nil ⟨H,I,h⟩
theorem Zmo {X:Cx} {c:Expr} {t:TT} (hc:PT X c t):PTs X [c] t:=λpins s σ H Q I h=>wpAny_tests_one (hc pins s σ H Q I h)
section
variable {prog:Program} {w:World} {A:Around} {R:Result->Shared->Prop} {s:Shared}
theorem Zl1 {elt target iter:Expr} {ifs:List Expr} {scope:Scope} {pos:Pos} {it acc:Value} {env:Env} (I:Nat->Shared->Prop)
  (turn:∀ n s,I n s->wpAny (model prog w) A (pyNext it) (λr s₁=>match r with
   | none=>R (.ok .next) s₁
   | some v=>wpAny (model prog w) A (letOwnedTupleGo target it v) (λ_ s₁=>wpAny (model prog w) A (assign target env v) (λ_ s₂=>
     wpAny (model prog w) A (forIn ifs true λc r=>if r = true then do let ok <- isTrue c env (eval c env); pure (ForInStep.yield ok) else pure (ForInStep.yield r)) (λok s₃=>
      if ok = true then wpAny (model prog w) A (eval elt env) (λx s₄=>
       wpAny (model prog w) A (call (.builtin "list.append") [acc,x]) (λ_ s₅=>∃ m,m < n/\I m s₅) (λ_ _=>False) s₄) (λ_ _=>False) s₃
      else ∃ m,m < n/\I m s₃) (λ_ _=>False) s₂) (λ_ _=>False) s₁) (λ_ _=>False) s₁) (λ_ _=>False) s)
  (n:Nat) (h:I n s):
  codeAny (model prog w) A (.compLoop (.ListComp elt [⟨target,iter,ifs,0⟩] scope pos) 0 it acc env) R s:=by
 refine codeAny_loop rfl I (λn s hI=>?_) n h;show wpAny _ A ((compTurn (.ListComp elt [⟨target,iter,ifs,0⟩] scope pos) 0 it acc env).onRaise (λx=>do noteFrame x env; theTreesLotGoes x)) _ _ s;refine wpAny_noted ?_;rw [compTurn_list];refine Jaf (Jc7 (Jaf (Jbz (turn n s hI) (λr s₁ h₁=>?_) λ_ _ h'=>h'.elim)));cases r with
 | none=>exact Jan h₁
 | some v=>
  refine Jaf (Jbz h₁ (λ_ s₁' h₁'=>?_) λ_ _ h'=>h'.elim);refine Jaf (Jbz h₁' (λ_ s₂ h₂=>Jaf (Jbz h₂ (λok s₃ h₃=>?_) λ_ _ h'=>h'.elim)) λ_ _ h'=>h'.elim);cases ok with
  | false=>exact Jan ⟨rfl,h₃⟩
  | true=>
   exact Jaf (Jaf (Jbz h₃ (λx s₄ h₄=>Jaf (Jbz h₄ (λ_ s₅ h₅=>Jan (Jan ⟨rfl,h₅⟩)) λ_ _ h'=>h'.elim)) λ_ _ h'=>h'.elim))
end
def Zcg (g:TG) (tt:TT) (te:TE) (J:It) (D:Addr) (σ0:St) (H1:Hp) (Q:VK):Prop:=
 ∃ W:Nat->Nat->St->Hp->Prop,(∃ m,W 0 m σ0 (upd H1 D (.lst [])))/\∀ i m σ' H2,W i m σ' H2->
  (J.stop i H2/\Q (.ref D) H2)\/(J.go i H2/\∀ x H3,J.yld i H2 x H3->g x σ' H3 λσ4 H4=>tt σ4 H4 λb H5=>
   if b = true then te σ4 H5 λy H6=>∃ vs,H6 D = some (.lst vs)/\vs.length < sizeLine/\∃ m',m' < m/\W (i + 1) m' σ4 (upd H6 D (.lst (vs ++ [y])))
   else ∃ m',m' < m/\W (i + 1) m' σ4 H5)
def tComp (k:Nat) (fr:List (Str × Nat)) (wi:TI) (g:TG) (tt:TT) (te:TE):TE:=λσ H Q=>wi σ H λJ H1=>∀ D,H1 D = none->Zcg g tt te J D (Zgr k fr σ) H1 Q
section
variable {X:Cx} {tg iter elt:Expr} {ifs:List Expr} {scope:Scope} {pos:Pos} {own:List Str} {fr:List (Str × Nat)} {wi:TI} {g:TG} {tt:TT} {te:TE}
theorem Zn1 {pins:List (Addr × Obj)} {s2:Shared} {σ:St} {H2:Hp} {it:Addr} {fp:List Addr} {tn:Nat->Heap->Prop} {J:It} {Q:VK} {cl:List (Str × Addr)} {RR:Value->Addr->Result->Shared->Prop} {E:Value->Shared->Prop}
  (hc:X.calm = true) (B:BlScope X scope own fr)
  (hb:∀ cl s H fp,PG (Zeq X (Zd6 own fr) scope cl s H fp) tg g/\PTs (Zeq X (Zd6 own fr) scope cl s H fp) ifs tt/\PE (Zeq X (Zd6 own fr) scope cl s H fp) elt te)
  (hcl:∀ x c,cl.lookup x = some c->X.env.cells.lookup x = some c) (hcl2:∀ y ∈ scope.names,y.2 = .free->∃ c,cl.lookup y.1 = some c)
  (I2:Inv X pins σ H2 s2) (T:Turn X.prog X.w X.K tg J fp it tn) (st2:tn 0 s2.heap) (f2:∀ b ∈ fp,FpOk X pins H2 b) (q:∀ D,H2 D = none->Zcg g tt te J D (Zgr own.length fr σ) H2 Q)
  (hRR:∀ D C s' H',Inv X pins σ H' s'->Q (.ref D) H'->(∃ m,s'.heap.Ns C m)->C ≠ X.env.locals->(∀ x c,X.env.cells.lookup x = some c->c ≠ C)->(∀ p ∈ X.pn ++ pins,p.1 ≠ C)->X.s₀.heap.objs.size<=C->H' C = none->RR (.ref D) C (.ok .next) s'):
  wpAny (model X.prog X.w) X.A (newList []) (λacc s₃=>wpAny (model X.prog X.w) X.A (newFunctionEnv scope X.env.globals cl [] X.env.qual none .none (some X.env)) (λcenv s₄=>
   codeAny (model X.prog X.w) X.A (.compStart (.ListComp elt [⟨tg,iter,ifs,0⟩] scope pos) 0 (.ref it) acc { cenv with scope:=relabel scope X.env }) (RR acc cenv.locals) s₄) E s₃) E s2:=by
 refine Jc0 ?_;have fr0:H2 s2.heap.objs.size = none:=I2.hok.fresh (Jag _);have I3:=I2.lnew (its:=[]) (ys:=[]) (t':=s2.toks) .nil (Jb3 _);generalize hs3:({ s2 with heap:=s2.heap.push { cls:=.type "list",data:=.seq ([]:List Value).toArray } }:Shared) = s3 at *;have k23:∀ b o,s2.heap.get? b = some o->s3.heap.get? b = some o:=λb o e=>by rw [<- hs3]; exact Jai _ e
 have sz3:s3.heap.objs.size = s2.heap.objs.size + 1:=by rw [<- hs3]; exact Jcz ..
 have I3':Inv X pins σ (upd H2 s2.heap.objs.size (.lst [])) s3:=I3;have fne:∀ b ∈ fp,b ≠ s2.heap.objs.size:=λb hb z=>by
  obtain ⟨o,ho,_⟩:=T.obj 0 _ st2 b hb;exact absurd (Jak ho) (by rw [z]; exact Jbs _)
 have f3:∀ b ∈ fp,FpOk X pins (upd H2 s2.heap.objs.size (.lst [])) b:=λb hb=>⟨by rw [Zal (fne b hb)]; exact (f2 b hb).1,(f2 b hb).2⟩
 have st3:tn 0 s3.heap:=T.keep 0 _ _ st2 λb _ o e=>k23 b o e;have hfo:∀ b ∈ fp,∃ o,s3.heap.get? b = some o:=λb hb=>let ⟨o,ho,_⟩:=T.obj 0 _ st3 b hb; ⟨o,ho⟩;refine Zhg λh' hn hk hce=>?_;have I4:=Zlq (own:=own) I3' B hcl hcl2 f3 hfo hn hk hce;obtain ⟨hg,ht,he⟩:=hb cl s3 (upd H2 s2.heap.objs.size (.lst [])) fp;have st4:tn 0 h':=T.keep 0 _ _ st3 λb _ o e=>hk b o e;have stat:∀ {H':Hp},(∀ b ∈ fp,H' b = none)->∀ b ∈ fp,FpOk (Zeq X (Zd6 own fr) scope cl s3 (upd H2 s2.heap.objs.size (.lst [])) fp) [] H' b:=λ{H'} hnn b hb=>
  ⟨hnn b hb,(I4.ok.exf b hb).1,I4.ok.exfs b hb,.inl hb,(I4.ok.exf b hb).2,λp hp=>absurd (show p ∈ ([]:List (Addr × Obj)) from hp) (by simp)⟩
 obtain ⟨W,⟨m0,w0⟩,turn⟩:=q s2.heap.objs.size fr0;have loop:codeAny (model X.prog X.w) X.A (.compLoop (.ListComp elt [⟨tg,iter,ifs,0⟩] scope pos) 0 (.ref it) (.ref s2.heap.objs.size) (Zeq X (Zd6 own fr) scope cl s3 (upd H2 s2.heap.objs.size (.lst [])) fp).env)
   (RR (.ref s2.heap.objs.size) s3.heap.objs.size) { s3 with heap:=h' }:=by
  refine Zl1 (λn s'=>∃ i σ' H',Inv (Zeq X (Zd6 own fr) scope cl s3 (upd H2 s2.heap.objs.size (.lst [])) fp) [] σ' H' s'/\tn i s'.heap/\(∀ b ∈ fp,H' b = none)/\W i n σ' H') ?_ m0
   ⟨0,_,_,I4,st4,λb hb=>(f3 b hb).1,w0⟩
  rintro n s5 ⟨i,σ5,H5,I5,st5,fr5,w5⟩;rcases turn i n σ5 H5 w5 with ⟨stop,qn⟩ | ⟨go,step⟩
  .refine thn (T.done (Zeq X (Zd6 own fr) scope cl s3 (upd H2 s2.heap.objs.size (.lst [])) fp) rfl rfl rfl hc i [] s5 σ5 H5 _ I5 (stat fr5) st5 stop) λr s6 ⟨hr,I6⟩=>?_;subst hr;have I7:Inv X pins σ H5 s6:=I3'.call' (ch:=fp) I6.os I6.base I6.hok I6.bare λb hb=>⟨(f3 b hb).2.2.2.1,(f3 b hb).2.1,(f3 b hb).2.2.2.2.1,(f3 b hb).2.2.2.2.2⟩
   obtain ⟨m6,hn6,_⟩:=I6.loc;refine hRR _ _ s6 H5 I7 qn ⟨m6,hn6⟩ (Jby I3'.lt) (λx c e=>?_) (λp hp=>?_) I3'.sz I6.free
   .obtain ⟨v,z⟩:=I3'.cell x c e;exact Ja6 z.lt
   .exact Ja6 (Jak (I3'.pin p hp).1)
  .refine thn (T.item (Zeq X (Zd6 own fr) scope cl s3 (upd H2 s2.heap.objs.size (.lst [])) fp) rfl rfl rfl hc i [] s5 σ5 H5 _ I5 (stat fr5) st5 go) λr s6 ⟨u,hr,h6⟩=>?_;subst hr;refine thn h6 λ_ s7 ⟨x,H7,I7,r7,y7,st7,fr7⟩=>?_;have I7':=I7.pinned (stat fr7) (T.obj _ _ st7);refine thn (hg _ s7 σ5 H7 x u _ I7' r7 (step x H7 y7)) λ_ s8 ⟨σ8,H8,I8,q8⟩=>?_;refine thn (ht _ s8 σ8 H8 _ I8 q8) λb s9 ⟨H9,I9,q9⟩=>?_;have again:∀ {sA:Shared} {σA:St} {HA:Hp} {m':Nat},Inv (Zeq X (Zd6 own fr) scope cl s3 (upd H2 s2.heap.objs.size (.lst [])) fp) ([] ++ Zhd fp s7.heap) σA HA sA->m' < n->W (i + 1) m' σA HA->
     ∃ m,m < n/\∃ i σ' H',Inv (Zeq X (Zd6 own fr) scope cl s3 (upd H2 s2.heap.objs.size (.lst [])) fp) [] σ' H' sA/\tn i sA.heap/\(∀ b ∈ fp,H' b = none)/\W i m σ' H':=λ{sA σA HA m'} IA hm wA=>by
    refine ⟨m',hm,i + 1,σA,HA,IA.unpinned,T.keep _ _ _ st7 λb hb o e=>(IA.pin (b,o) (Ja2 _ (Ja2 _ (Zca hb e)))).1,λb hb=>?_,wA⟩;obtain ⟨o,e,d⟩:=T.obj _ _ st7 b hb;exact (IA.pin (b,o) (Ja2 _ (Ja2 _ (Zca hb e)))).2.1
   cases b with
   | false=>
    obtain ⟨m',hm,w9⟩:=q9;exact again I9 hm w9
   | true=>
    have q9:te σ8 H9 _:=q9;show wpAny _ _ _ _ _ _;refine thn (he _ s9 σ8 H9 _ I9 q9) λy sA ⟨vy,HA,IA,rA,vs,hvs,hlen,m',hm,wA⟩=>?_;refine thn (Zb1 (X:=Zeq X (Zd6 own fr) scope cl s3 (upd H2 s2.heap.objs.size (.lst [])) fp) _ sA σ8 HA (.ref s2.heap.objs.size) [vy] (.ref s2.heap.objs.size) [y] (λ_ HB=>W (i + 1) m' σ8 HB) IA rfl (.cons rA .nil) ⟨_,vs,vy,rfl,rfl,hvs,hlen,wA⟩) λ_ sB ⟨_,HB,IB,_,wB⟩=>?_;exact again IB hm wB
 exact codeAny_compStart_list loop (T.self _ 0 _ _ _ st4 loop)
theorem SameBut.get {a:Addr} {h h':Heap} (x:Heap.SameBut a h h'):∀ b o,b ≠ a->h.get? b = some o->h'.get? b = some o:=λb o n e=>(x.2 b n).trans e
theorem Za6 (hc:X.calm = true) (B:BlScope X scope own fr) (hi:PI X tg iter wi)
  (hb:∀ cl s H fp,PG (Zeq X (Zd6 own fr) scope cl s H fp) tg g/\PTs (Zeq X (Zd6 own fr) scope cl s H fp) ifs tt/\PE (Zeq X (Zd6 own fr) scope cl s H fp) elt te)
  (hs:∀ x,foldedSetIterable iter X.env x = pure x:=by intro _; rfl):
  PE X (.ListComp elt [⟨tg,iter,ifs,0⟩] scope pos) (tComp own.length fr wi g tt te):=by
 intro pins s σ H Q I h;obtain ⟨cl,hclos,hcl,hcl2⟩:=Zkj (scope:=scope) (env:=X.env) λy hy hf=>I.ok.has y.1 (B.free y hy hf);rw [eval_ListComp];refine Jd8 (use:=none) rfl hs hclos B.kind B.loc (thn (hi pins s σ H _ I h) λv s1 h1=>thn h1 λitv s2 h2=>?_);obtain ⟨it,fp,tn,J,H2,e,I2,T,st2,f2,q⟩:=h2;subst e;refine Zn1 (RR:=λacc C=>compPost (model X.prog X.w) X.A X.xe none (EP X pins σ Q) acc C) (Q:=Q) hc B hb hcl hcl2 I2 T st2 f2 q ?_;intro D C s' H' I' hq hn n1 n2 n3 n4 n5;obtain ⟨m,hn⟩:=hn;refine ⟨m,hn,λh' hs'=>⟨.ref D,H',I'.turned (it:=C) (t':=s'.toks) (λb o hb e=>SameBut.get hs' b o hb e) n5 (Jcg (Jcg n1)) (.inr n4) n2 n3,rfl,hq⟩⟩
theorem Zf9 {i:Nat} {x:Str} {pos' spos:Pos} (hc:X.calm = true) (B:BlScope X scope own fr) (hi:PI X tg iter wi)
  (hb:∀ cl s H fp,PG (Zeq X (Zd6 own fr) scope cl s H fp) tg g/\PTs (Zeq X (Zd6 own fr) scope cl s H fp) ifs tt/\PE (Zeq X (Zd6 own fr) scope cl s H fp) elt te)
  (hN:X.N.Nodup) (hix:X.N[i]? = some x) (hx:X.env.scope.names.lookup x = some .local)
  (hsw:swapsWith (.ListComp elt [⟨tg,iter,ifs,0⟩] scope pos) (some (.Name x pos')) spos.line X.env = pure true)
  (hs:∀ x,foldedSetIterable iter X.env x = pure x:=by intro _; rfl):
  PS X (.Assign [.Name x pos'] (.ListComp elt [⟨tg,iter,ifs,0⟩] scope pos) spos) (tAsg (tComp own.length fr wi g tt te) (Zb4 i)):=by
 intro pins s σ H D I h;obtain ⟨cl,hclos,hcl,hcl2⟩:=Zkj (scope:=scope) (env:=X.env) λy hy hf=>I.ok.has y.1 (B.free y hy hf);rw [exec_Assign_Name_used _ _ _ _ hsw];refine Jaf (Jc7 (Jaf ?_));show wpAny _ _ (do let _ <- comprehension (.ListComp elt [⟨tg,iter,ifs,0⟩] scope pos) scope X.env _ (newList []) false (eval iter X.env) (some (assign (.Name x pos') X.env))) _ _ s;refine Jaf (Jbz (Jd8 (use:=some (assign (.Name x pos') X.env)) (Q:=λ_ s'=>SP X pins D .next s') rfl hs hclos B.kind B.loc (thn (hi pins s σ H _ I h) λv s1 h1=>thn h1 λitv s2 h2=>?_))
  (λ_ s' hq=>Jan (Jan hq)) λ_ _ e=>e)
 obtain ⟨it,fp,tn,J,H2,e,I2,T,st2,f2,q⟩:=h2;subst e;refine Zn1 (RR:=λacc C=>compPost (model X.prog X.w) X.A X.xe (some (assign (.Name x pos') X.env)) (λ_ s'=>SP X pins D .next s') acc C) (Q:=λv H'=>Zb4 i v σ H' D.nx) hc B hb hcl hcl2 I2 T st2 f2 q ?_;intro DD C s' H' I' hq hn n1 n2 n3 n4 n5;obtain ⟨m,hn⟩:=hn;show wpAny _ _ (assign (.Name x pos') X.env (.ref DD)) _ _ s';refine wpAny_assign_Name (Zkw I' hN hix (.inl hx) (v:=.ref DD) rfl (λs3 I3 ⟨a,hsa,ha⟩=>?_) (.inr hx));have hCa:C ≠ a:=by
  rcases ha with z | z
  .rw [z]; exact n1
  .exact (n2 x a z).symm
 refine ⟨m,hn.sameBut hsa hCa,λh' hs'=>⟨σ.set i (some (.ref DD)),H',I3.turned (it:=C) (t':=s3.toks) (λb o hb e=>SameBut.get hs' b o hb e) n5 n1 (.inr n4) n2 n3,hq⟩⟩
end
section
variable {X:Cx}
theorem Zbb:OpR X (binaryOp .Mult) (rI IntMulOk λi j=>.int (i * j)):=
 opI λi j t u s Q E c h=>PyProof.Rows.mul_int h c
noncomputable def cV:V->Option Value
 | .ty n=>some (.type n)
 | .ref a=>some (.ref a)
 | _=>none
theorem Zb6:Zgu X (.builtin "isinstance") (λxs H Q=>∃ x y c t b,xs = [x,y]/\cV y = some c/\TyOf X.K H x t/\PySem.W.kitOne X.K t c = some b/\Q (.bl b) H):=by
 intro pins s σ H xs us Q I r h;obtain ⟨x,y,c,t,b,rfl,hc,ty,e,q⟩:=h;obtain ⟨u,v,rfl,rx,ry⟩:=vals2 r;have hv:v = c:=by
  cases y <;> first | (cases hc; done) | (cases hc; cases ry; rfl)
 subst hv;exact Zq5 I rx ty e λtk=>⟨.bl b,H,I.tok _,rfl,q⟩
theorem Zdy (bs:List Bool):(List.range bs.length).all (λi=>(bs[i]?).getD true) = bs.all id:=by
 rw [Jdd,Jcj,Jcj];constructor
 .intro h b hb;obtain ⟨i,hi,rfl⟩:=Jas.mp hb;have:=h i (Ja4.mpr hi);rw [Jaa hi] at this;exact this
 .intro h i hi;have hi:=Ja4.mp hi;rw [Jaa hi];exact h _ (Jaw hi)
theorem Zr3 (bs:List Bool):(List.range bs.length).any (λi=>(bs[i]?).getD true) = bs.any id:=by
 rw [Jdd,Jen,Jen];constructor
 .rintro ⟨i,hi,h⟩;have hi:=Ja4.mp hi;rw [Jaa hi] at h;exact ⟨_,Jaw hi,h⟩
 .rintro ⟨b,hb,h⟩;obtain ⟨i,hi,rfl⟩:=Jas.mp hb;exact ⟨i,Ja4.mpr hi,by rw [Jaa hi]; exact h⟩
theorem Ziw {A:Around} {prog:Program} {w:World} {bs:List Bool} {its:List Value} (r:Vals (bs.map V.bl) its):TruthOf prog w A (λi v=>its.toArray[i]? = some v) (λi=>(bs[i]?).getD true):=by
 intro i v s Q E hP hQ;have hP:its[i]? = some v:=by simpa using hP
 have hl:=r.length;rw [Jab] at hl;have hi:i < bs.length:=by rw [hl]; exact (Jah.mp hP).1
 obtain ⟨u,hu,rv⟩:=r.get (i:=i) (x:=.bl bs[i]) (by rw [Jad,Jaa hi]; rfl);rw [hP] at hu;cases hu;cases rv;have hQ:Q ((bs[i]?).getD true) s:=hQ;rw [Jaa hi] at hQ;exact Jb9 hQ
theorem Zn8 (hc:X.calm = true):Zgu X (.builtin "all") (λxs H Q=>∃ (p:Addr) (bs:List Bool),xs = [.ref p]/\SqL X.K H p (bs.map V.bl)/\Q (.bl (bs.all id)) H):=by
 intro pins s σ H xs us Q I r h;obtain ⟨p,bs,rfl,hq,q⟩:=h;obtain ⟨u,rfl,rx⟩:=Zkr r;cases rx;obtain ⟨its,rv,pl,hz⟩:=I.list hq;have hl:=rv.length;rw [Jab] at hl;refine call_all_walk (Jd0 pl.isList ?_);have hne:p ≠ s.heap.objs.size:=λe=>by
  obtain ⟨o,n,ho,_⟩:=pl;exact absurd (Jak ho) (by rw [e]; exact Jbs _)
 refine ⟨s.heap.objs.size,_,_,_,_,_,λi=>(bs[i]?).getD true,rfl,Walks.list (A:=X.A.in1) (I.ok.hd hc) _ p hne its.toArray,⟨⟨_,Ja5 _ rfl,rfl,rfl⟩,pl.isList.at λo e=>Jai _ e⟩,Ziw rv,λh' tk kp=>?_⟩;have e:(List.range its.toArray.size).all (λi=>(bs[i]?).getD true) = bs.all id:=by
  rw [Jaq,<- hl]; exact Zdy bs
 rw [e];have f:=I.fpOk (H':=H) (Jag s.heap.objs.size) (I.hok.fresh (Jag _));exact ⟨.bl _,H,(I.kept (h':=s.heap.push { cls:=.type "list_iterator",data:=.fields #[.ref p,.int 0 0] }) (t':=s.toks) λb o e=>Jai _ e).turned (it:=s.heap.objs.size) (t':=tk) (λb o hb e=>kp b o (by simpa using hb) e) f.1 f.2.1 f.2.2.2.1 f.2.2.2.2.1 f.2.2.2.2.2,rfl,q⟩
theorem Zub (hc:X.calm = true):Zgu X (.builtin "any") (λxs H Q=>∃ (p:Addr) (bs:List Bool),xs = [.ref p]/\SqL X.K H p (bs.map V.bl)/\Q (.bl (bs.any id)) H):=by
 intro pins s σ H xs us Q I r h;obtain ⟨p,bs,rfl,hq,q⟩:=h;obtain ⟨u,rfl,rx⟩:=Zkr r;cases rx;obtain ⟨its,rv,pl,hz⟩:=I.list hq;have hl:=rv.length;rw [Jab] at hl;refine call_any_walk (Jd0 pl.isList ?_);have hne:p ≠ s.heap.objs.size:=λe=>by
  obtain ⟨o,n,ho,_⟩:=pl;exact absurd (Jak ho) (by rw [e]; exact Jbs _)
 refine ⟨s.heap.objs.size,_,_,_,_,_,λi=>(bs[i]?).getD true,rfl,Walks.list (A:=X.A.in1) (I.ok.hd hc) _ p hne its.toArray,⟨⟨_,Ja5 _ rfl,rfl,rfl⟩,pl.isList.at λo e=>Jai _ e⟩,Ziw rv,λh' tk kp=>?_⟩;have e:(List.range its.toArray.size).any (λi=>(bs[i]?).getD true) = bs.any id:=by
  rw [Jaq,<- hl]; exact Zr3 bs
 rw [e];have f:=I.fpOk (H':=H) (Jag s.heap.objs.size) (I.hok.fresh (Jag _));exact ⟨.bl _,H,(I.kept (h':=s.heap.push { cls:=.type "list_iterator",data:=.fields #[.ref p,.int 0 0] }) (t':=s.toks) λb o e=>Jai _ e).turned (it:=s.heap.objs.size) (t':=tk) (λb o hb e=>kp b o (by simpa using hb) e) f.1 f.2.1 f.2.2.2.1 f.2.2.2.2.1 f.2.2.2.2.2,rfl,q⟩
end
inductive EqD (K:PySem.W.Frag) (H:Hp):Nat->V->V->Bool->Prop where
 | flat {n:Nat} {x y:V} (hx:Zov x = true) (hy:Zov y = true):EqD K H n x y (eqV x y)
 | same {n:Nat} {a:Addr}:EqD K H n (.ref a) (.ref a) true
 | list {n:Nat} {a c:Addr} {xs ys:List V} {bs:List Bool} (ne:a ≠ c) (ha:SqL K H a xs) (hc:SqL K H c ys) (hl:xs.length = ys.length) (hb:bs.length = xs.length)
   (he:∀ (j:Nat) x y b,xs[j]? = some x->ys[j]? = some y->bs[j]? = some b->EqD K H n x y b):EqD K H (n + 1) (.ref a) (.ref c) (bs.all id)
 | listL {n:Nat} {a c:Addr} {xs ys:List V} (ne:a ≠ c) (ha:SqL K H a xs) (hc:SqL K H c ys) (hl:xs.length ≠ ys.length):EqD K H (n + 1) (.ref a) (.ref c) false
 | tuple {n:Nat} {a c:Addr} {xs ys:List V} {bs:List Bool} (ne:a ≠ c) (ha:SqT K H a xs) (hc:SqT K H c ys) (hl:xs.length = ys.length) (hb:bs.length = xs.length)
   (he:∀ (j:Nat) x y b,xs[j]? = some x->ys[j]? = some y->bs[j]? = some b->EqD K H n x y b):EqD K H (n + 1) (.ref a) (.ref c) (bs.all id)
def Zfj (K:PySem.W.Frag) (H:Hp) (n:Nat) (xs ys:List V) (bs:List Bool):Prop:=
 xs.length = ys.length/\bs.length = xs.length/\∀ (j:Nat) x y b,xs[j]? = some x->ys[j]? = some y->bs[j]? = some b->EqD K H n x y b
section
variable {X:Cx} {pins:List (Addr × Obj)} {σ:St} {H:Hp} {s:Shared}
theorem Zfs {A:Around} {xs ys:List V} {us vs:List Value} {bs:List Bool} (rx:Vals xs us) (ry:Vals ys vs) (hl:xs.length = ys.length) (hb:bs.length = xs.length)
  (ih:∀ (j:Nat) x y b,xs[j]? = some x->ys[j]? = some y->bs[j]? = some b->∀ u v,RelV x u->RelV y v->SeqAt.EqAt A s u v b):
  ∀ j (h1:j < us.toArray.size) (h2:j < vs.toArray.size),SeqAt.EqAt A s us.toArray[j] vs.toArray[j] ((bs[j]?).getD true):=by
 intro j h1 h2;have e1:=rx.length;have e2:=ry.length;have h1':j < us.length:=by simpa using h1
 have h2':j < vs.length:=by simpa using h2
 have g1:xs[j]? = some (xs[j]'(Zck e1 h1')):=Jaa _;have g2:ys[j]? = some (ys[j]'(oz105 hl e1 h1')):=Jaa _;have g3:bs[j]? = some (bs[j]'(oz64 hb e1 h1')):=Jaa _;obtain ⟨u,hu,ru⟩:=rx.get g1;obtain ⟨v,hv,rv⟩:=ry.get g2;have eu:us.toArray[j] = u:=by
  rw [Jaa h1'] at hu; simpa using hu
 have ev:vs.toArray[j] = v:=by
  rw [Jaa h2'] at hv; simpa using hv
 rw [eu,ev,g3];exact ih j _ _ _ g1 g2 g3 u v ru rv
theorem EqD.at {n:Nat} {x y:V} {b:Bool} (I:Inv X pins σ H s) (e:EqD X.K H n x y b):∀ {A:Around} {u v:Value},A.units + n < cLine->RelV x u->RelV y v->SeqAt.EqAt A s u v b:=by
 induction e with
 | flat hx hy=>intro A u v _ ru rv; exact eqAt_V ru rv hx hy
 | same=>intro A u v _ ru rv; cases ru; cases rv; exact SeqAt.EqAt.same _
 | @list n a c xs ys bs ne ha hc hl hb he ih=>
  intro A u v hA ru rv;cases ru;cases rv;obtain ⟨its,r1,p1,_⟩:=I.list ha;obtain ⟨its',r2,p2,_⟩:=I.list hc;have e1:=r1.length;have e2:=r2.length;have q:=SeqAt.RcAt.lists (e:=λj=>(bs[j]?).getD true) p1.isList p2.isList (by simp; exact oz27 hl e1 e2) (by omega) (Zfs (A:=A.in1) r1 r2 hl hb λj x y b h1 h2 h3 u v ru rv=>ih j x y b h1 h2 h3 (show A.units + 1 + n < cLine by omega) ru rv);rw [show its.toArray.size = bs.length by simp; omega,Zdy] at q;exact Je4 ne q
 | @listL n a c xs ys ne ha hc hl=>
  intro A u v hA ru rv;cases ru;cases rv;obtain ⟨its,r1,p1,_⟩:=I.list ha;obtain ⟨its',r2,p2,_⟩:=I.list hc;have e1:=r1.length;have e2:=r2.length;exact Je4 ne (SeqAt.RcAt.lists_lengths p1.isList p2.isList (by simp; omega) (by omega))
 | @tuple n a c xs ys bs ne ha hc hl hb he ih=>
  intro A u v hA ru rv;cases ru;cases rv;obtain ⟨its,r1,p1,_⟩:=I.tuple ha;obtain ⟨its',r2,p2,_⟩:=I.tuple hc;have e1:=r1.length;have e2:=r2.length;have q:=SeqAt.RcAt.tuples (e:=λj=>(bs[j]?).getD true) p1 p2 (by omega) (Zfs (A:=A.in1) r1 r2 hl hb λj x y b h1 h2 h3 u v ru rv=>ih j x y b h1 h2 h3 (show A.units + 1 + n < cLine by omega) ru rv);rw [show min its.toArray.size its'.toArray.size = bs.length by simp; exact oz4 hl hb e1 e2,Zdy,show (its.toArray.size == its'.toArray.size) = true by simp; exact oz27 hl e1 e2,Jfi] at q;exact Je4 ne q
def rEqL (K:PySem.W.Frag) (neg:Bool):R2:=λx y H Q=>∃ a c xs ys,x = .ref a/\y = .ref c/\SqL K H a xs/\SqL K H c ys /\
 ((xs.length ≠ ys.length/\Q (.bl neg) H)\/∃ bs,Zfj K H 6 xs ys bs/\Q (.bl (if neg then !bs.all id else bs.all id)) H)
def Zsu (K:PySem.W.Frag) (neg:Bool):R2:=λx y H Q=>∃ a c xs ys bs,x = .ref a/\y = .ref c/\SqT K H a xs/\SqT K H c ys/\Zfj K H 6 xs ys bs/\Q (.bl (if neg then !bs.all id else bs.all id)) H
theorem Zuy (hu:X.A.units + 8 < cLine):OpR X (compareOp .Eq) (rEqL X.K false):=by
 intro pins s σ H x y v u Q I rx ry h;obtain ⟨a,c,xs,ys,rfl,rfl,ha,hc,h⟩:=h;cases rx;cases ry;obtain ⟨its,r1,p1,_⟩:=I.list ha;obtain ⟨its',r2,p2,_⟩:=I.list hc;have e1:=r1.length;have e2:=r2.length;rcases h with ⟨hne,q⟩ | ⟨bs,⟨hl,hb,he⟩,q⟩
 .exact SeqAt.eq_list_lengthsAt p1.isList p2.isList (by simp; exact oz148 e1 e2 hne) (by omega) ⟨.bl false,H,I,rfl,q⟩
 .refine SeqAt.eq_listAt (e:=λj=>(bs[j]?).getD true) p1.isList p2.isList (by simp; exact oz137 e1 e2 hl) (by omega) (Zfs (A:=X.A.in1) r1 r2 hl hb λj x y b h1 h2 h3 u v ru rv=>(he j x y b h1 h2 h3).at I (show X.A.units + 1 + 6 < cLine by omega) ru rv) ?_;rw [show its.toArray.size = bs.length by simp; exact oz22 e1 hb,Zdy];exact ⟨.bl (bs.all id),H,I,rfl,q⟩
theorem op_neL (hu:X.A.units + 8 < cLine):OpR X (compareOp .NotEq) (rEqL X.K true):=by
 intro pins s σ H x y v u Q I rx ry h;obtain ⟨a,c,xs,ys,rfl,rfl,ha,hc,h⟩:=h;cases rx;cases ry;obtain ⟨its,r1,p1,_⟩:=I.list ha;obtain ⟨its',r2,p2,_⟩:=I.list hc;have e1:=r1.length;have e2:=r2.length;rcases h with ⟨hne,q⟩ | ⟨bs,⟨hl,hb,he⟩,q⟩
 .exact SeqAt.RcNeAt.lists_lengths p1.isList p2.isList (by simp; exact oz148 e1 e2 hne) (by omega) _ _ _ _ ⟨.bl true,H,I,rfl,q⟩
 .refine SeqAt.RcNeAt.lists (e:=λj=>(bs[j]?).getD true) p1.isList p2.isList (by simp; exact oz137 e1 e2 hl) (by omega) (Zfs (A:=X.A.in1) r1 r2 hl hb λj x y b h1 h2 h3 u v ru rv=>(he j x y b h1 h2 h3).at I (show X.A.units + 1 + 6 < cLine by omega) ru rv) _ _ _ _ ?_;rw [show its.toArray.size = bs.length by simp; exact oz22 e1 hb,Zdy];exact ⟨.bl (!bs.all id),H,I,rfl,q⟩
theorem Zuw (hu:X.A.units + 8 < cLine):OpR X (compareOp .Eq) (Zsu X.K false):=by
 intro pins s σ H x y v u Q I rx ry h;obtain ⟨a,c,xs,ys,bs,rfl,rfl,ha,hc,⟨hl,hb,he⟩,q⟩:=h;cases rx;cases ry;obtain ⟨its,r1,p1,_⟩:=I.tuple ha;obtain ⟨its',r2,p2,_⟩:=I.tuple hc;have e1:=r1.length;have e2:=r2.length;refine SeqAt.eq_tupleAt (e:=λj=>(bs[j]?).getD true) p1 p2 (by omega) (Zfs (A:=X.A.in1) r1 r2 hl hb λj x y b h1 h2 h3 u v ru rv=>(he j x y b h1 h2 h3).at I (show X.A.units + 1 + 6 < cLine by omega) ru rv) ?_;rw [show min its.toArray.size its'.toArray.size = bs.length by simp; exact oz4 hl hb e1 e2,Zdy,show (its.toArray.size == its'.toArray.size) = true by simp; exact oz27 hl e1 e2,Jfi];exact ⟨.bl (bs.all id),H,I,rfl,q⟩
theorem Zgm (hu:X.A.units + 8 < cLine):OpR X (compareOp .NotEq) (Zsu X.K true):=by
 intro pins s σ H x y v u Q I rx ry h;obtain ⟨a,c,xs,ys,bs,rfl,rfl,ha,hc,⟨hl,hb,he⟩,q⟩:=h;cases rx;cases ry;obtain ⟨its,r1,p1,_⟩:=I.tuple ha;obtain ⟨its',r2,p2,_⟩:=I.tuple hc;have e1:=r1.length;have e2:=r2.length;refine SeqAt.RcNeAt.tuples (e:=λj=>(bs[j]?).getD true) p1 p2 (by omega) (Zfs (A:=X.A.in1) r1 r2 hl hb λj x y b h1 h2 h3 u v ru rv=>(he j x y b h1 h2 h3).at I (show X.A.units + 1 + 6 < cLine by omega) ru rv) _ _ _ _ ?_;rw [show min its.toArray.size its'.toArray.size = bs.length by simp; exact oz4 hl hb e1 e2,Zdy,show (its.toArray.size == its'.toArray.size) = true by simp; exact oz27 hl e1 e2,Jfi];exact ⟨.bl (!bs.all id),H,I,rfl,q⟩
end
theorem Zln (K:PySem.W.Frag):PySem.W.kitOne K (.type "int") (.type "int") = some true:=by rfl
theorem Zju (K:PySem.W.Frag):PySem.W.kitOne K (.type "int") (.type "bool") = some false:=by kernel_rfl
theorem Zlm (K:PySem.W.Frag):PySem.W.kitOne K (.type "tuple") (.type "tuple") = some true:=by rfl
theorem Zm0 (K:PySem.W.Frag):PySem.W.kitOne K (.type "list") (.type "list") = some true:=by rfl
structure Cal (P:Program) (w:World) (K:PySem.W.Frag) (mg:Str->Option Value) (base:Heap) (x:Str) (k:Nat) (sp:Sp):Prop where
 ex:∃ (f:Addr) (fd:FuncData) (ps:List Str),FnOk P w K mg base CX0 k f fd ps sp/\mg x = some (.ref f)/\PySem.W.keepIn K (.ref f) = true/\Binds K fd ps []
theorem pe_cal {X:Cx} {x:Str} {k:Nat} {sp:Sp} {e:Expr} {es:List Expr} {t:TA} {p pos:Pos} (C:Cal X.prog X.w X.K X.mg X.base x k sp) (hr:Room k X.A) (hg:Gl X x) (ha:PA X (e :: es) t)
  (hdb:(x == ("__debug__" : Str)) = false:=by decide) (he:starEach (e :: es) X.env = (false,eval e X.env) :: starEach es X.env:=by rfl) (hpl:(backTo pos (starEach es X.env)).any (·.1) = false:=by rfl):
  PE X (.Call (.Name x p) (e :: es) [] pos) (Zsh sp [] E0 t):=by
 obtain ⟨f,fd,ps,F,hm,hk,hb⟩:=C.ex;exact pe_call F hr hg hm hk hb .nil pass0 ha hdb he hpl
structure CalM (P:Program) (w:World) (K:PySem.W.Frag) (mg:Str->Option Value) (base:Heap) (C:Addr) (m:Str) (k:Nat) (sp:Sp):Prop where
 ex:∃ (f:Addr) (fd:FuncData) (ps:List Str),FnOk P w K mg base CX0 k f fd ps sp/\Meth K C m f/\Binds K fd ps []
structure CalI (P:Program) (w:World) (K:PySem.W.Frag) (mg:Str->Option Value) (base:Heap) (x:Str) (C:Addr) (k:Nat) (sp:Sp):Prop where
 ex:∃ (f:Addr) (fd:FuncData) (ps:List Str),FnOk P w K mg base CX0 k f fd ps sp/\Mk K C f/\mg x = some (.ref C)/\Binds K fd ps []
theorem pe_new {X:Cx} {x:Str} {C:Addr} {k:Nat} {sp:Sp} {e:Expr} {es:List Expr} {t:TA} {p pos:Pos} (M:CalI X.prog X.w X.K X.mg X.base x C k sp) (hr:Room (k + 1) X.A) (hg:Gl X x) (ha:PA X (e :: es) t)
  (hdb:(x == ("__debug__" : Str)) = false:=by decide) (he:starEach (e :: es) X.env = (false,eval e X.env) :: starEach es X.env:=by rfl) (hpl:(backTo pos (starEach es X.env)).any (·.1) = false:=by rfl):
  PE X (.Call (.Name x p) (e :: es) [] pos) (Zsg C sp [] E0 t):=by
 obtain ⟨f,fd,ps,F,hm,hk,hb⟩:=M.ex;exact pe_make hm F hr hg hk hb .nil pass0 ha hdb he hpl
noncomputable def blOk (outer:List (Str × NameKind)) (N:List Str) (scope:Scope) (fr:List (Str × Nat)):Bool:=
 scope.kind == .function && scope.names.all (λy=>y.2 != .free || outer.lookup y.1 == some .cell || outer.lookup y.1 == some .free) && scope.names.all (λy=>scope.names.lookup y.1 == some y.2) &&
 fr.all λy=>scope.names.lookup y.1 == some .free && N[y.2]? == some y.1
theorem Zb0 {X:Cx} {scope:Scope} {own:List Str} {fr:List (Str × Nat)} (h:blOk X.env.scope.names X.N scope fr = true):BlScope X scope own fr:=by
 unfold blOk at h;simp only [Jb7,Jcj] at h;obtain ⟨⟨⟨h1,h2⟩,h3⟩,h4⟩:=h;refine ⟨?_,λy hy hf=>?_,λy hy hl=>?_,λy hy=>?_,λy hy=>?_⟩
 .cases e:scope.kind <;> rw [e] at h1 <;> first | rfl | (exact absurd h1 (by decide))
 .have:=h2 y hy;rw [hf] at this;simp only [Jdh,Jbx] at this;rcases this with (q | q) | q
  .exact absurd q (by decide)
  .exact .inl q
  .exact .inr q
 .have:=h3 y hy;rw [hl] at this;exact Jbx.mp this
 .exact Jbx.mp (h3 y hy)
 .have:=h4 y hy;exact ⟨Jbx.mp this.1,Jbx.mp this.2⟩
def Sh (k:Nat) (cap σ:St):Prop:=∃ o,o.length = k/\σ = o ++ cap
theorem Sh.mk1 {cap:St} {a:Option V}:Sh 1 cap (a :: cap):=⟨[a],rfl,rfl⟩
theorem Sh.mk2 {cap:St} {a b:Option V}:Sh 2 cap (a :: b :: cap):=⟨[a,b],rfl,rfl⟩
theorem Sh.one {cap σ:St} (h:Sh 1 cap σ):∃ a,σ = a :: cap:=by
 obtain ⟨o,h1,rfl⟩:=h
 match o,h1 with
 | [a],_=>exact ⟨a,rfl⟩
theorem Sh.two {cap σ:St} (h:Sh 2 cap σ):∃ a b,σ = a :: b :: cap:=by
 obtain ⟨o,h1,rfl⟩:=h
 match o,h1 with
 | [a,b],_=>exact ⟨a,b,rfl⟩
noncomputable def Zbp (fr:List (Str × Nat)) (σ:St):St:=fr.map λy=>(σ[y.2]?).getD none
def Wv (n k:Nat) (cap:St) (Pv:Nat->List V->Hp->Prop):Nat->Nat->St->Hp->Prop:=λi m σ H=>m = n - i/\i<=n/\Sh k cap σ/\∃ vs,Pv i vs H
def Lf (D:Addr) (n k:Nat) (cap:St) (Pv:Nat->List V->Hp->Prop) (i:Nat) (σ4:St) (y:V) (H6:Hp):Prop:=
 ∃ vs,H6 D = some (.lst vs)/\vs.length < sizeLine/\∃ m',m' < n - i/\Wv n k cap Pv (i + 1) m' σ4 (upd H6 D (.lst (vs ++ [y])))
def Lf0 (n k:Nat) (cap:St) (Pv:Nat->List V->Hp->Prop) (i:Nat) (σ4:St) (H5:Hp):Prop:=∃ m',m' < n - i/\Wv n k cap Pv (i + 1) m' σ4 H5
theorem Zo0 {D:Addr} {n k:Nat} {cap:St} {Pv:Nat->List V->Hp->Prop} {i:Nat} {σ4:St} {y:V} {H6:Hp} {vs ws:List V} (hi:i < n) (sh:Sh k cap σ4) (hD:H6 D = some (.lst vs)) (hl:vs.length < sizeLine)
  (p:Pv (i + 1) ws (upd H6 D (.lst (vs ++ [y])))):Lf D n k cap Pv i σ4 y H6:=⟨vs,hD,hl,n - (i + 1),oz21 hi,rfl,hi,sh,ws,p⟩
theorem leaf0 {n k:Nat} {cap:St} {Pv:Nat->List V->Hp->Prop} {i:Nat} {σ4:St} {H5:Hp} {ws:List V} (hi:i < n) (sh:Sh k cap σ4) (p:Pv (i + 1) ws H5):Lf0 n k cap Pv i σ4 H5:=⟨n - (i + 1),oz21 hi,rfl,hi,sh,ws,p⟩
def Zf6 (g:TG) (tt:TT) (te:TE) (D:Addr) (n k:Nat) (cap:St) (Pv:Nat->List V->Hp->Prop) (i:Nat) (x:V) (σ':St) (H:Hp):Prop:=
 g x σ' H λσ4 H4=>tt σ4 H4 λb H5=>if b = true then te σ4 H5 λy H6=>Lf D n k cap Pv i σ4 y H6 else Lf0 n k cap Pv i σ4 H5
section
variable {K:PySem.W.Frag} {a D:Addr} {xs:List V} {g:TG} {tt:TT} {te:TE} {k:Nat} {fr:List (Str × Nat)} {σ:St} {H1:Hp} {Q:VK}
theorem sh0:Sh k (Zbp fr σ) (Zgr k fr σ):=⟨List.replicate k none,Ja9,rfl⟩
theorem Zn4 {J:It} {n:Nat} (it:Nat->V->Prop) (Pv:Nat->List V->Hp->Prop) (h0:Pv 0 [] (upd H1 D (.lst [])))
  (go:∀ i vs H,i < n->Pv i vs H->J.go i H/\∀ x H',J.yld i H x H'->H' = H/\it i x) (stop:∀ vs H,Pv n vs H->J.stop n H)
  (hs:∀ i x vs σ' H,i < n->it i x->Sh k (Zbp fr σ) σ'->Pv i vs H->Zf6 g tt te D n k (Zbp fr σ) Pv i x σ' H) (hd:∀ vs H,Pv n vs H->Q (.ref D) H):Zcg g tt te J D (Zgr k fr σ) H1 Q:=by
 refine ⟨Wv n k (Zbp fr σ) Pv,⟨n,by simp,Jb3 _,sh0,[],h0⟩,?_⟩;rintro i m σ' H2 ⟨rfl,hi,sh,vs,p⟩;by_cases hlt:i < n
 .obtain ⟨g1,g2⟩:=go i vs H2 hlt p;refine .inr ⟨g1,λx H3 y=>?_⟩;obtain ⟨rfl,hx⟩:=g2 x H3 y;exact hs i x vs σ' _ hlt hx sh p
 .have e:i = n:=by exact Zs3 hi hlt
  subst e;exact .inl ⟨stop vs H2 p,hd vs H2 p⟩
theorem Zki (Pv:Nat->List V->Hp->Prop) (h0:Pv 0 [] (upd H1 D (.lst []))) (hl:∀ i vs H,i<=xs.length->Pv i vs H->SqL K H a xs)
  (hs:∀ i x vs σ' H,i < xs.length->xs[i]? = some x->Sh k (Zbp fr σ) σ'->Pv i vs H->Zf6 g tt te D xs.length k (Zbp fr σ) Pv i x σ' H) (hd:∀ vs H,Pv xs.length vs H->Q (.ref D) H):Zcg g tt te (Itl K a) D (Zgr k fr σ) H1 Q:=
 Zn4 (λi x=>xs[i]? = some x) Pv h0 (λi vs H hi p=>⟨⟨xs,xs[i],hl i vs H (Jcd hi) p,by simp [hi]⟩,λx H' y=>⟨y.1,y.2 xs (hl i vs H (Jcd hi) p)⟩⟩)
  (λvs H p=>⟨xs,hl _ vs H (Jag _) p,Jag _⟩) hs hd
theorem Zgo {lo:Int} {n:Nat} (Pv:Nat->List V->Hp->Prop) (h0:Pv 0 [] (upd H1 D (.lst [])))
  (hs:∀ i x vs σ' H,i < n->x = .int (lo + i)->Sh k (Zbp fr σ) σ'->Pv i vs H->Zf6 g tt te D n k (Zbp fr σ) Pv i x σ' H) (hd:∀ vs H,Pv n vs H->Q (.ref D) H):Zcg g tt te (Itr lo n) D (Zgr k fr σ) H1 Q:=
 Zn4 (λi x=>x = .int (lo + i)) Pv h0 (λi vs H hi p=>⟨hi,λx H' y=>y⟩) (λvs H p=>Jag _) hs hd
end
def Ext (l:Addr) (H H':Hp):Prop:=∀ b o,b ≠ l->H b = some o->H' b = some o
theorem Ext.refl (l:Addr) (H:Hp):Ext l H H:=λ_ _ _ e=>e
theorem Ext.trans {l:Addr} {H H1 H2:Hp} (a:Ext l H H1) (b:Ext l H1 H2):Ext l H H2:=λc o n e=>b c o n (a c o n e)
theorem Ext.new {l p:Addr} {H:Hp} {o:HO} (h:H p = none):Ext l H (upd H p o):=λc u _ e=>by rw [Zal (Zaj e h)]; exact e
theorem Ext.set {l:Addr} {H:Hp} {o:HO}:Ext l H (upd H l o):=λc u n e=>by rw [Zal n]; exact e
theorem Same.ext {l:Addr} {H H':Hp} (s:Same H H'):Ext l H H':=λc o _ e=>s c o e
theorem Same.new {p:Addr} {H:Hp} {o:HO} (h:H p = none):Same H (upd H p o):=λc u e=>by rw [Zal (Zaj e h)]; exact e
theorem Same.upd {p:Addr} {H H':Hp} {o:HO} (s:Same H H') (h:H p = none):Same H (upd H' p o):=λc u e=>by rw [Zal (Zaj e h)]; exact s c u e
theorem Ext.upd {l p:Addr} {H H':Hp} {o:HO} (s:Ext l H H') (h:H p = none):Ext l H (upd H' p o):=λc u n e=>by rw [Zal (Zaj e h)]; exact s c u n e
theorem Ext.free {l p:Addr} {H H':Hp} (s:Ext l H H') (n:p ≠ l) (h:H' p = none):H p = none:=by
 cases e:H p with
 | none=>rfl
 | some o=>rw [s p o n e] at h; cases h
theorem cx_K {CX:CXT} {P:Program} {w:World} {K:PySem.W.Frag} {mg:Str->Option Value} {base:Heap} {N:List Str} {qual:Str} {scope:Scope} {f:Addr} {cd:Value} {A:Around} {outer:List Env} {s:Shared} {H:Hp} {E:XK}:(Zt4 CX P w K mg base N qual scope f cd A outer s H E).K = K:=rfl
theorem in_K {X:Cx} {N:List Str} {scope:Scope} {cl:List (Str × Addr)} {s:Shared} {H:Hp} {fp:List Addr}:(Zeq X N scope cl s H fp).K = X.K:=rfl
theorem wish_K {X:Cx} {E:Value->Shared->Prop}:(X.wish E).K = X.K:=rfl
theorem Zht {X:Cx} {x:Str} {i:Int} {pos:Pos} (hg:Gl X x) (hm:∃ t,X.mg x = some (.int i t)) (hd:(x == ("__debug__" : Str)) = false:=by decide):PE X (.Name x pos) (tC (.int i)):=by
 obtain ⟨t,e⟩:=hm;exact pe_glob hg e ⟨t,rfl⟩ hd
theorem Zcx {α:Type} {xs:List α} {i:Int} {v:α} (h0:0<=i) (h:xs[i.toNat]? = some v):atI xs i = some v:=by
 have e:((i.toNat:Nat):Int) = i:=Jcr h0;rw [<- e];exact atI_nat h
def Zb3:Expr->Bool
 | .Starred _ _=>true
 | _=>false
theorem Za8 {e:Expr} {es:List Expr} {env:Env} (h:Zb3 e = false):starEach (e :: es) env = (false,eval e env) :: starEach es env:=by
 cases e <;> first | rfl | cases h
theorem Zfk {pos:Pos} {env:Env}:∀ {es:List Expr},es.all (λx=>!Zb3 x) = true->(backTo pos (starEach es env)).any (·.1) = false
 | [],_=>rfl
 | e :: es,h=>by
  rw [List.all_cons,Jb7] at h;have h1:Zb3 e = false:=by simpa using h.1
  rw [Za8 h1];show ((false,_).1 || (backTo pos (starEach es env)).any (·.1)) = false;rw [Zfk h.2];rfl
section
variable {X:Cx} {x:Str} {p pos:Pos} {e:Expr} {es:List Expr} {te:TE} {t:TA} {id T:String} {r:List V->Hp->VK->Prop}
theorem pa_c (ha:PE X e te) (hr:PA X es t) (h:Zb3 e = false:=by rfl):PA X (e :: es) (tCons te t):=pa_cons ha hr (Za8 h)
theorem Zcj (hc:Zgu X (.builtin id) r) (hg:Gl X x) (hm:X.mg x = none) (hv:bootBuiltins x = some (.builtin id)) (ha:PA X (e :: es) t) (h:Zb3 e = false:=by rfl) (h2:es.all (λx=>!Zb3 x) = true:=by rfl)
  (hn:x ≠ "__name__" := by decide) (hdb:(x == ("__debug__" : Str)) = false:=by decide):PE X (.Call (.Name x p) (e :: es) [] pos) (tCB r t):=Zs1 hc hg hm hv ha hn hdb (Za8 h) (Zfk h2)
theorem Zp2 (hc:Zgu X (.type T) r) (hg:Gl X x) (hm:X.mg x = none) (hv:bootBuiltins x = some (.type T)) (ha:PA X (e :: es) t) (h:Zb3 e = false:=by rfl) (h2:es.all (λx=>!Zb3 x) = true:=by rfl)
  (hn:x ≠ "__name__" := by decide) (hdb:(x == ("__debug__" : Str)) = false:=by decide):PE X (.Call (.Name x p) (e :: es) [] pos) (tCB r t):=Zp1 hc hg hm hv ha hn hdb (Za8 h) (Zfk h2)
theorem Za5 {k:Nat} {sp:Sp} (C:Cal X.prog X.w X.K X.mg X.base x k sp) (hr:Room k X.A) (hg:Gl X x) (ha:PA X (e :: es) t) (h:Zb3 e = false:=by rfl) (h2:es.all (λx=>!Zb3 x) = true:=by rfl)
  (hdb:(x == ("__debug__" : Str)) = false:=by decide):PE X (.Call (.Name x p) (e :: es) [] pos) (Zsh sp [] E0 t):=pe_cal C hr hg ha hdb (Za8 h) (Zfk h2)
theorem pe_n {C:Addr} {k:Nat} {sp:Sp} (M:CalI X.prog X.w X.K X.mg X.base x C k sp) (hr:Room (k + 1) X.A) (hg:Gl X x) (ha:PA X (e :: es) t) (h:Zb3 e = false:=by rfl) (h2:es.all (λx=>!Zb3 x) = true:=by rfl)
  (hdb:(x == ("__debug__" : Str)) = false:=by decide):PE X (.Call (.Name x p) (e :: es) [] pos) (Zsg C sp [] E0 t):=pe_new M hr hg ha hdb (Za8 h) (Zfk h2)
theorem Zgb {tg a:Expr} {ta:TA} (hg:Gl X "range") (hm:X.mg "range" = none) (ha:PA X [a] ta) (h:Zb3 a = false:=by rfl):PI X tg (.Call (.Name "range" p) [a] [] pos) (iRng1 ta):=Zpz hg hm ha (Za8 h)
theorem pi_r2 {tg a b:Expr} {ta:TA} (hg:Gl X "range") (hm:X.mg "range" = none) (ha:PA X [a,b] ta) (h:Zb3 a = false:=by rfl) (h2:Zb3 b = false:=by rfl):PI X tg (.Call (.Name "range" p) [a,b] [] pos) (iRng2 ta):=
 Zpy hg hm ha (by rw [Za8 h,Za8 h2]; rfl) (Za8 h2)
end
theorem scal_ii {i j:Int}:scal (.int i) (.int j) = true:=rfl
theorem scal_bb {i j:Bool}:scal (.bl i) (.bl j) = true:=rfl
theorem scal_ss {i j:Str}:scal (.str i) (.str j) = true:=rfl
theorem Zla {X:Cx} {x:Str} {n:String} {pos:Pos} (hg:Gl X x) (hm:X.mg x = none) (hv:bootBuiltins x = some (.type n)) (hn:x ≠ "__name__" := by decide) (hd:(x == ("__debug__" : Str)) = false:=by decide):PE X (.Name x pos) (tC (.ty n)):=pe_bltn (v:=.ty n) hg hm hv rfl hn hd
section
variable {X:Cx} (K:PySem.W.Frag) (hK:X.K = K)
include hK
theorem Zfc {pos:Pos} {es:List Expr} {k:Nat} {t:TGs} {n:Nat} (hc:X.calm = true) (h:PGs X es t) (hn:(assignEach es X.env).length = n) (hst:(assignEach es X.env).findIdx? (·.1) = none):PG X (.Tuple es k pos) (gTup K n t):=by subst hK; exact Zcd hc h hn hst
theorem Zkk:Zgu X (.type "list") (λxs H Q=>∃ p ys,xs = [.ref p]/\(SqL K H p ys\/SqT K H p ys)/\∀ l,H l = none->Q (.ref l) (upd H l (.lst ys))):=by subst hK; exact Zhh
theorem Zd5:IxR X (rIxL K):=by subst hK; exact Zat
theorem Zka:IxR X (rIxT K):=by subst hK; exact Zaq
theorem Zj3:SlR X (rSlL K):=by subst hK; exact Zh5
theorem pe_fldK {e:Expr} {f:Str} {pos:Pos} {ta:TE} (he:PE X e ta) (hb:attributeBase e f X.env (eval e X.env) = eval e X.env):PE X (.Attribute e f pos) (tFld K ta f):=by subst hK; exact Zlb he hb
theorem Zhs {tg l:Expr} {tl:TE} (hl:PE X l tl):PI X tg l (iList K tl):=by subst hK; exact Zbd hl
end
theorem Zt6 {g:TG} {tb:TS} {D:Ends} {x:V} {σ:St} {H:Hp} (h:∀ D':Ends,D' = D->g x σ H λσ2 H2=>tb D' σ2 H2):g x σ H λσ2 H2=>tb D σ2 H2:=h D rfl
theorem cutI {c:TT} {A B:TS} {D:Ends} {σ:St} {H:Hp} (h:∀ A',A' = A->tIfS c A' B D σ H):tIfS c A B D σ H:=h A rfl
theorem Zr0 {xs:List V} {k:Nat} {v:V} (h:xs[k]? = some v):atI xs ((k:Nat):Int) = some v:=Zcx (Jez _) (by rw [Jau]; exact h)
theorem atI_z {xs:List V} {k:Nat} {v:V} (h:xs[k]? = some v):atI xs (0 + ((k:Nat):Int)) = some v:=by rw [Int.zero_add]; exact Zr0 h
theorem Zkn {as:List Addr} {k:Nat} {a:Addr} (h:as[k]? = some a):atI (as.map V.ref) ((k:Nat):Int) = some (.ref a):=Zr0 (by rw [Jad,h]; rfl)
theorem atI_rz {as:List Addr} {k:Nat} {a:Addr} (h:as[k]? = some a):atI (as.map V.ref) (0 + ((k:Nat):Int)) = some (.ref a):=by rw [Int.zero_add]; exact Zkn h
theorem lo62 (n:Nat):-2 ^ 62<=((n:Nat):Int):=by omega
theorem hi62 {n:Nat} (h:n<=1000):((n:Nat):Int) < 2 ^ 62:=by omega
theorem Zb2 {α:Type} {xs:List α} {k n:Nat} (h:k < n) (hl:xs.length = n):k < xs.length:=hl ▸ h
theorem Zqx {α:Type} {xs:List α} {m n:Nat} (hl:xs.length = n) (h:n<=m):xs.length<=m:=hl ▸ h
theorem Zpb {n k:Nat}:((n:Int) - (k:Int)).toNat = n - k:=by omega
theorem lt_sub {n k i:Nat} (h:i < n - k):k + i < n:=by omega
theorem ixN_n {n k:Nat} (h:k < n):ixN n ((k:Nat):Int) = some k:=by
 unfold ixN;rw [if_pos (Jez _),if_pos (by omega),Jau]
theorem Zts {as:List Addr} {k n:Nat} (h:k < n) (hl:as.length = n):ixN (as.map V.ref).length ((k:Nat):Int) = some k:=ixN_n (by rw [Jab,hl]; exact h)
end L2
set_option maxHeartbeats 1000000
namespace HT
open PySem PySem.Spec PyProof.Rows
section
variable {prog:Program} {w:World} {A:Around} {E:Value->Shared->Prop} {s:Shared}
end
end HT
namespace L2
open PySem PySem.Spec PyProof.Rows
section
variable {X:Cx} {e es:Expr} {te ts:TE} {pos p2:Pos}
end
end L2
namespace L2
open PySem PySem.Spec PyProof.Rows
section
variable {X:Cx}
def rGetL (K:PySem.W.Frag):V->V->Hp->VK->Prop:=λx y H Q=>∃ p xs i v,x = .ref p/\y = .int i/\0<=i/\SqL K H p xs/\xs[i.toNat]? = some v/\Q v H
end
def Big (x:Int):Prop:=-(100000000000000000000000000000000) < x/\x < 100000000000000000000000000000000
theorem Big.mul {x y:Int} (hx:Big x) (hy:Big y):IntMulOk x y:=by
 have e:(2:Nat) ^ 200 > 100000000000000000000000000000000:=by decide +kernel
 have b:∀ {z:Int},Big z->Builtin.Int.intBits z<=2 ^ 20:=λ{z} h=>by
  have hz:z.natAbs < 2 ^ 200:=by have:=h.1; have:=h.2; omega
  unfold Builtin.Int.intBits;split
  .exact Jb3 _
  .rename_i h0
   have:z.natAbs.log2 < 200:=(Nat.log2_lt (by intro c; apply h0; simpa using c)).mpr hz;have e2:(2:Nat) ^ 20 = 1048576:=by decide
   rw [e2];omega
 exact .of_bits (b hx) (b hy)
def atZ (ns:List Int) (i:Int):Int:=ns.getD i.toNat 0
theorem atZ_get {ns:List Int} {i:Int} (h:i.toNat < ns.length):(ns.map V.int)[i.toNat]? = some (.int (atZ ns i)):=by
 rw [Jad,Jaa h];simp [atZ,h]
theorem atZ_mem {ns:List Int} {i:Int} (h:i.toNat < ns.length):atZ ns i ∈ ns:=by
 unfold atZ;rw [Jac,Jaa h];exact Jaw h
end L2
namespace L2
open PySem PySem.Spec PyProof.Rows
section
variable {X:Cx} {pins:List (Addr × Obj)} {σ:St} {H:Hp} {s:Shared} {h':Heap}
theorem Inv.turnedL {t':Nat} {fp:List Addr} (I:Inv X pins σ H s) (hf:∀ b ∈ fp,FpOk X pins H b) (k:∀ b o,b ∉ fp->s.heap.get? b = some o->h'.get? b = some o):Inv X pins σ H { s with heap:=h',toks:=t' }:=by
 have nit:∀ b u,H b = some u->b ∉ fp:=λb u e z=>by rw [(hf b z).1] at e; cases e
 refine I.step (g':=s.gens) (d':=s.drawn) (ch:=fp) (λb hb=>?_) (λb o _ _ hc e _=>k b o hc e) (λb o _ _ hc e _=>⟨o.slots,k b o hc e⟩) (λ_ _ _ _ n=>n)
  (λb o hc e=>⟨o,k b o hc e⟩) (λ_ _ e=>e) (λ_ _ _ e=>e) (λb ps e=>⟨#[],by rw [e]; simp⟩) (λm hm=>?_) (λb u e=>?_) I.bare
 .obtain ⟨f0,f1,f2,f3,f4,f5⟩:=hf b hb;exact ⟨f3,f1,f4,f5⟩
 .obtain ⟨o,es,ep,ho,r⟩:=hm;exact ⟨o,es,ep,k _ o (λz=>(hf _ z).2.1 rfl) ho,r⟩
 .refine (I.hok b u e).stay (λc v hc q=>k c v ?_ q) (λ_ q=>q) (λ_ _ q=>q) λ_ _ _ q=>q;rcases hc with z | z
  .rw [z]; exact nit b u e
  .exact nit c _ z
theorem Inv.turnedT {t':Nat} {fp:List Addr} {p:Addr} {o:HO} (I:Inv X pins σ H s) (hf:∀ b ∈ fp,FpOk X pins H b) (k:∀ b o,b ∉ fp->s.heap.get? b = some o->h'.get? b = some o) (hp:s.heap.objs.size<=p)
  (new:ObjOk X.prog X.w (upd H p o) h' p o):Inv X pins σ (upd H p o) { s with heap:=h',toks:=t' }:=by
 have hn:H p = none:=I.hok.fresh hp;have nit:∀ b u,H b = some u->b ∉ fp:=λb u e z=>by rw [(hf b z).1] at e; cases e
 have npp:∀ b u,s.heap.get? b = some u->b ≠ p:=λb u e=>Ja6 (Ja0 (Jak e) hp);refine I.step (g':=s.gens) (d':=s.drawn) (ch:=fp) (λb hb=>?_) (λb o _ _ hc e _=>k b o hc e) (λb o _ _ hc e _=>⟨o.slots,k b o hc e⟩) (λb o _ e n=>by rw [Zal (npp b o e)]; exact n)
  (λb o hc e=>⟨o,k b o hc e⟩) (λb xs e=>by rw [Zal (Zaj e hn)]; exact e) (λb u xs e=>by rw [Zal (Zaj e hn)]; exact e) (λb ps e=>⟨#[],by rw [Zal (Zaj e hn),e]; simp⟩) (λm hm=>?_) (λb u e=>?_) I.bare
 .obtain ⟨f0,f1,f2,f3,f4,f5⟩:=hf b hb;exact ⟨f3,f1,f4,f5⟩
 .obtain ⟨o,es,ep,ho,r⟩:=hm;exact ⟨o,es,ep,k _ o (λz=>(hf _ z).2.1 rfl) ho,r⟩
 .by_cases hb:b = p
  .subst hb; rw [Zab] at e; cases e; exact new
  .rw [Zal hb] at e;refine (I.hok b u e).stay (λc v hc q=>k c v ?_ q) (λc q=>by rw [Zal (Zaj q hn)]; exact q) (λc xs q=>by rw [Zal (Zaj q hn)]; exact q) λc _ _ q=>by rw [Zal (Zaj q hn)]; exact q
   rcases hc with z | z
   .rw [z]; exact nit b u e
   .exact nit c _ z
end
def Itz (K:PySem.W.Frag) (a b:Addr):It:=
 ⟨λi H=>∃ xs ys x y,SqL K H a xs/\SqL K H b ys/\xs[i]? = some x/\ys[i]? = some y,λi H v H'=>∃ x y p,v = .ref p/\H p = none/\H' = upd H p (.tup [x,y])/\(∀ xs,SqL K H a xs->xs[i]? = some x)/\∀ ys,SqL K H b ys->ys[i]? = some y,λi H=>∃ xs ys,SqL K H a xs/\SqL K H b ys/\(xs.length<=i\/ys.length<=i)⟩
theorem Zsb {P:Program} {w:World} {K:PySem.W.Frag} {elts:List Expr} {x1:Nat} {pos:Pos} {z TI TO i1 i2 a b:Addr} (D:ZipApart z TI TO i1 i2 a b):
  Turn P w K (.Tuple elts x1 pos) (Itz K a b) [z,TI,TO,i1,i2] z (λi h=>IsZip h z TI TO .none/\IsPair h TI (.ref i1) (.ref i2)/\(∃ u v,IsPair h TO u v)/\h.IsListIter i1 a i/\h.IsListIter i2 b i) where
 mem:=by simp
 obj:=λi h st c hc=>by
  obtain ⟨hz,hTI,⟨u,v,hTO⟩,⟨o1,e1,c1,d1⟩,⟨o2,e2,c2,d2⟩⟩:=st;simp at hc;rcases hc with rfl | rfl | rfl | rfl | rfl
  .exact ⟨_,hz,λv z=>by have z':Data.fields _ = Data.cell v:=z; cases z'⟩
  .exact ⟨_,hTI,λv z=>by have z':Data.seq _ _ = Data.cell v:=z; cases z'⟩
  .exact ⟨_,hTO,λv z=>by have z':Data.seq _ _ = Data.cell v:=z; cases z'⟩
  .exact ⟨o1,e1,λv z=>by rw [d1] at z; cases z⟩
  .exact ⟨o2,e2,λv z=>by rw [d2] at z; cases z⟩
 keep:=λi h h' st k=>by
  obtain ⟨hz,hTI,⟨u,v,hTO⟩,h1,h2⟩:=st;exact ⟨k z (by simp) _ hz,k TI (by simp) _ hTI,⟨u,v,k TO (by simp) _ hTO⟩,h1.at λo e=>k i1 (by simp) o e,h2.at λo e=>k i2 (by simp) o e⟩
 item:=by
  intro X hP hw hK hc i pins s σ H E I hf st hg;subst hP hw hK;obtain ⟨xs,ys,x,y,hqa,hqb,hx,hy⟩:=hg;obtain ⟨its,rv,p,hz1⟩:=I.list hqa;obtain ⟨its2,rv2,p2,hz2⟩:=I.list hqb;obtain ⟨u,hu,ru⟩:=rv.get hx;obtain ⟨u2,hu2,ru2⟩:=rv2.get hy;obtain ⟨hz,hTI,⟨c,d,hTO⟩,h1,h2⟩:=st;refine wpAny_pyNext_zip_item D hz hTI hTO h1 h2 p.isList p2.isList (by simpa using hu) (by simpa using hu2) λh' a1 a2 a3 a4 a5 a6 a7=>?_;refine ⟨_,rfl,wpAny_letOwnedTupleGo_zip a1 λh'' b1 b2=>?_⟩;have nz:s.heap.objs.size ≠ z:=Jby (Jak hz);have k2:∀ c o,c ∉ [z,TI,TO,i1,i2]->s.heap.get? c = some o->h''.get? c = some o:=λc o hc e=>by
   simp at hc;exact b2.extBut _ _ hc.1 (a7 c o hc.1 hc.2.2.1 hc.2.2.2.1 hc.2.2.2.2 e)
  have I2:Inv X pins σ (upd H s.heap.objs.size (.tup [x,y])) { s with heap:=h'' }:=I.turnedT (t':=s.toks) hf k2 (Jag _)
   ⟨by show 2<=sizeLine; decide,[u,u2],.cons ru (.cons ru2 .nil),_,b2.extBut _ _ nz a5,rfl,_,rfl⟩
  refine ⟨.ref s.heap.objs.size,_,I2,rfl,⟨x,y,_,rfl,I.hok.fresh (Jag _),rfl,λxs' hq=>by rw [I.list_inj hq hqa]; exact hx,λys' hq=>by rw [I.list_inj hq hqb]; exact hy⟩,
   ⟨b1,b2.extBut _ _ D.TIz (a7 _ _ D.TIz D.TITO D.TIi1 D.TIi2 hTI),⟨_,_,b2.extBut _ _ D.TOz a2⟩,a3.extBut b2.extBut D.i1z,a4.extBut b2.extBut D.i2z⟩,λc hc=>?_⟩
  have hlt:∀ c ∈ [z,TI,TO,i1,i2],c < s.heap.objs.size:=λc hc=>by
   simp at hc;obtain ⟨o1,e1,_⟩:=h1;obtain ⟨o2,e2,_⟩:=h2;rcases hc with rfl | rfl | rfl | rfl | rfl
   .exact Jak hz
   .exact Jak hTI
   .exact Jak hTO
   .exact Jak e1
   .exact Jak e2
  rw [Zal (Ja6 (hlt c hc))];exact (hf c hc).1
 done:=by
  intro X hP hw hK hc i pins s σ H E I hf st hg;subst hP hw hK;obtain ⟨xs,ys,hqa,hqb,hx⟩:=hg;obtain ⟨its,rv,p,hz1⟩:=I.list hqa;obtain ⟨its2,rv2,p2,hz2⟩:=I.list hqb;obtain ⟨hz,hTI,⟨c,d,hTO⟩,h1,h2⟩:=st;have l1:=rv.length;have l2:=rv2.length;refine wpAny_pyNext_zip_end (I.ok.hd hc) D hz hTI hTO h1 h2 p.isList p2.isList ?_ λh' kk=>⟨rfl,I.turnedL (t':=s.toks) hf λc o hc e=>?_⟩
  .rcases hx with hx | hx
   .exact .inl (by simp; omega)
   .exact .inr (by simp; omega)
  .simp at hc;exact kk c o hc.1 hc.2.2.1 hc.2.2.2.1 hc.2.2.2.2 e
 self:=λ_ _ _ _ _ st h=>wpAny_pyIter_zip st.1 h
section
variable {X:Cx}
def iZip (K:PySem.W.Frag) (ta:TA):TI:=λσ H R=>ta σ H λvs H1=>∃ a b,vs = [.ref a,.ref b]/\(∃ xs,SqL K H1 a xs)/\(∃ ys,SqL K H1 b ys)/\R (Itz K a b) H1
theorem Zhe {elts:List Expr} {x1:Nat} {pt p pos:Pos} {a b:Expr} {ta:TA} (hg:Gl X "zip") (hm:X.mg "zip" = none) (ha:PA X [a,b] ta) (h:Zb3 a = false:=by rfl) (h2:Zb3 b = false:=by rfl):
  PI X (.Tuple elts x1 pt) (.Call (.Name "zip" p) [a,b] [] pos) (iZip X.K ta):=by
 intro pins s σ H R I hh;refine Call_ (Zfg I hg hm boot_zip (Jbq (thn (ha pos pins s σ H _ I hh) λus s1 ⟨vs,H1,I1,r1,q1⟩=>?_) (by rw [Za8 h,Za8 h2]) (by rw [Za8 h2]; rfl)));obtain ⟨c,d,e,⟨xs,hq1⟩,⟨ys,hq2⟩,q⟩:=q1;subst e;cases r1 with
 | cons r rr=>
  cases rr with
  | cons r' rr=>
   cases rr;cases r;cases r';obtain ⟨its,rv,p1,hz1⟩:=I1.list hq1;obtain ⟨its2,rv2,p2,hz2⟩:=I1.list hq2;have lt1:c < s1.heap.objs.size:=by obtain ⟨o,ho,_⟩:=p1.isList; exact Jak ho
   have lt2:d < s1.heap.objs.size:=by obtain ⟨o,ho,_⟩:=p2.isList; exact Jak ho
   refine call_zip_2 p1.isList p2.isList λh' a1 a2 a3 a4 a5 a6 a7=>wpAny_pyIter_zip (s:={ s1 with heap:=h' }) a1 ?_;refine ⟨_,_,_,_,H1,rfl,I1.kept (t':=s1.toks) a7,Zsb (zipApart_new lt1 lt2),⟨a1,a2,⟨_,_,a3⟩,a4,a5⟩,λb hb=>?_,q⟩;have hb':s1.heap.objs.size<=b:=by
    simp at hb;rcases hb with rfl | rfl | rfl | rfl | rfl
    .exact Jdn _ _
    .exact Jdn _ _
    .exact Jdn _ _
    .exact Jag _
    .exact Jdn _ _
   have:=(I1.fpOk (H':=H1) hb' (I1.hok.fresh hb'))
   exact this
theorem Zn7 (hc:X.calm = true):Zgu X (.builtin "sum") (λxs H Q=>∃ (p:Addr) (ns:List Int),xs = [.ref p]/\SqL X.K H p (ns.map V.int)/\Q (.int (preSum (λi=>ns.getD i 0) ns.length)) H):=by
 intro pins s σ H xs us Q I r h;obtain ⟨p,ns,rfl,hq,q⟩:=h;obtain ⟨u,rfl,rx⟩:=Zkr r;cases rx;obtain ⟨its,rv,pl,hz⟩:=I.list hq;have hl:=rv.length;rw [Jab] at hl;refine call_sum_walkG (Jd0 pl.isList ?_);have hne:p ≠ s.heap.objs.size:=λe=>by
  obtain ⟨o,n,ho,_⟩:=pl;exact absurd (Jak ho) (by rw [e]; exact Jbs _)
 refine ⟨s.heap.objs.size,_,_,_,_,_,λi=>ns.getD i 0,rfl,Walks.list (A:=X.A.in1) (I.ok.hd hc) _ p hne its.toArray,⟨⟨_,Ja5 _ rfl,rfl,rfl⟩,pl.isList.at λo e=>Jai _ e⟩,?_,?_,λh' tk t' kp=>?_⟩
 .intro b hb;simp at hb;rcases hb with rfl | rfl
  .rw [Jcz]; exact Jel _
  .rw [Jcz];obtain ⟨o,ho,_⟩:=pl.isList;exact Jcl (Jak ho)
 .intro i v hv;have hv:its[i]? = some v:=by simpa using hv
  have hi:i < ns.length:=by rw [hl]; exact (Jah.mp hv).1
  obtain ⟨u,hu,ru⟩:=rv.get (i:=i) (x:=.int ns[i]) (by rw [Jad,Jaa hi]; rfl);rw [hv] at hu;cases hu;obtain ⟨t,rfl⟩:=ru;exact ⟨t,by simp [hi]⟩
 .rw [Jaq,<- hl];have f:=I.fpOk (H':=H) (Jag s.heap.objs.size) (I.hok.fresh (Jag _));exact ⟨.int _,H,(I.kept (h':=s.heap.push { cls:=.type "list_iterator",data:=.fields #[.ref p,.int 0 0] }) (t':=s.toks) λb o e=>Jai _ e).turned (it:=s.heap.objs.size) (t':=tk) (λb o hb e=>kp b o (by simpa using hb) e) f.1 f.2.1 f.2.2.2.1 f.2.2.2.2.1 f.2.2.2.2.2,⟨t',rfl⟩,q⟩
end
section
variable {K:PySem.W.Frag} {a b D:Addr} {xs ys:List V} {g:TG} {tt:TT} {te:TE} {k:Nat} {fr:List (Str × Nat)} {σ:St} {H1:Hp} {Q:VK}
theorem Zn2 (Pv:Nat->List V->Hp->Prop) (hlen:ys.length = xs.length) (h0:Pv 0 [] (upd H1 D (.lst []))) (hl:∀ i vs H,i<=xs.length->Pv i vs H->SqL K H a xs/\SqL K H b ys)
  (hs:∀ i x y p vs σ' H,i < xs.length->xs[i]? = some x->ys[i]? = some y->H p = none->Sh k (Zbp fr σ) σ'->Pv i vs H->Zf6 g tt te D xs.length k (Zbp fr σ) Pv i (.ref p) σ' (upd H p (.tup [x,y]))) (hd:∀ vs H,Pv xs.length vs H->Q (.ref D) H):
  Zcg g tt te (Itz K a b) D (Zgr k fr σ) H1 Q:=by
 refine ⟨Wv xs.length k (Zbp fr σ) Pv,⟨xs.length,by simp,Jb3 _,sh0,[],h0⟩,?_⟩;rintro i m σ' H2 ⟨rfl,hi,sh,vs,p⟩;obtain ⟨q1,q2⟩:=hl i vs H2 hi p;by_cases hlt:i < xs.length
 .refine .inr ⟨⟨xs,ys,xs[i],ys[i]'(Zck hlen hlt),q1,q2,by simp [hlt],by simp [hlen,hlt]⟩,λx H3 y=>?_⟩;obtain ⟨u,v,pp,rfl,hp,rfl,e1,e2⟩:=y;exact hs i u v pp vs σ' _ hlt (e1 _ q1) (e2 _ q2) hp sh p
 .have e:i = xs.length:=by exact Zs3 hi hlt
  subst e;exact .inl ⟨⟨xs,ys,q1,q2,.inl (Jag _)⟩,hd vs H2 p⟩
end
end L2
namespace L2
open PySem PySem.Spec PyProof.Rows
def nrm (a b:Int):Int × Int:=(a / (Int.gcd a b:Int),b / (Int.gcd a b:Int))
def Low (x:Int × Int):Prop:=0 < x.2/\Int.gcd x.1 x.2 = 1
theorem emulR (a b p:Int):a * (b % p) % p = a * b % p:=by rw [Int.mul_emod,Int.emod_emod,<- Int.mul_emod]
theorem Zdi {a b:Int} (hb:0 < b):0 < (Int.gcd a b:Int):=by
 have:0 < Int.gcd a b:=Jdv a (by omega);omega
theorem Zqi {a b:Int}:(nrm a b).1 * (Int.gcd a b:Int) = a:=Jck (Jbv ..)
theorem Zmw {a b:Int}:(nrm a b).2 * (Int.gcd a b:Int) = b:=Jck (Jb0 ..)
theorem nrm_pos {a b:Int} (hb:0 < b):0 < (nrm a b).2:=by
 have h2:=@Zmw a b;have g0:=Zdi (a:=a) hb;rcases Jfc 0 (nrm a b).2 with h | h | h
 .exact h
 .rw [<- h,Int.zero_mul] at h2; omega
 .have:=Int.mul_neg_of_neg_of_pos h g0;omega
theorem Zqh {a b:Int} (hb:0 < b):Low (nrm a b):=by
 refine ⟨nrm_pos hb,?_⟩;have h:=Int.gcd_mul_right (nrm a b).1 (Int.gcd a b:Int) (nrm a b).2;rw [Zqi,Zmw] at h;have g0:=Zdi (a:=a) hb;have:Int.gcd a b = Int.gcd (nrm a b).1 (nrm a b).2 * Int.gcd a b:=by simpa using h
 have g1:0 < Int.gcd a b:=by omega
 exact (Nat.eq_of_mul_eq_mul_right g1 (by omega)).symm
theorem Zor {x y:Int × Int} (hx:Low x) (hy:Low y) (h:x.1 * y.2 = y.1 * x.2):x = y:=by
 obtain ⟨x0,gx⟩:=hx;obtain ⟨y0,gy⟩:=hy;have d1:x.2.natAbs ∣ y.2.natAbs:=by
  have c:Nat.Coprime x.2.natAbs x.1.natAbs:=by rw [Nat.coprime_comm]; exact gx
  refine c.dvd_of_dvd_mul_left ?_;rw [<- Jc9,h,Jc9];exact Nat.dvd_mul_left ..
 have d2:y.2.natAbs ∣ x.2.natAbs:=by
  have c:Nat.Coprime y.2.natAbs y.1.natAbs:=by rw [Nat.coprime_comm]; exact gy
  refine c.dvd_of_dvd_mul_left ?_;rw [<- Jc9,<- h,Jc9];exact Nat.dvd_mul_left ..
 have e:=Nat.dvd_antisymm d1 d2;have e2:x.2 = y.2:=by omega
 have e1:x.1 = y.1:=by
  rw [e2] at h;exact Int.eq_of_mul_eq_mul_right (by omega) h
 exact Jfh e1 e2
theorem Zc7 (a:Int) {g:Int} (hg:0 < g) (hd:g ∣ a):(a / g).natAbs<=a.natAbs:=by
 obtain ⟨k,rfl⟩:=hd;rw [Int.mul_ediv_cancel_left _ (by omega),Jc9];exact Nat.le_mul_of_pos_left _ (by omega)
def Bd (B:Nat) (x:Int × Int):Prop:=x.1.natAbs<=B/\x.2.natAbs<=B
theorem Zqj {a b:Int} {B:Nat} (hb:0 < b) (h1:a.natAbs<=B) (h2:b.natAbs<=B):Bd B (nrm a b):=
 ⟨Jat (Zc7 a (Zdi hb) (Jbv ..)) h1,Jat (Zc7 b (Zdi hb) (Jb0 ..)) h2⟩
def Isn (p:Int) (x:Int × Int):Prop:=(p = 0/\Low x)\/(0 < p/\0<=x.1/\x.1 < p/\x.2 = 1)
noncomputable def Zc5 (p:Int) (x y:Int × Int):Int × Int:=if p = 0 then nrm (x.1 * y.2 + y.1 * x.2) (x.2 * y.2) else ((x.1 + y.1) % p,1)
noncomputable def Zba (p:Int) (x y:Int × Int):Int × Int:=if p = 0 then nrm (x.1 * y.1) (x.2 * y.2) else (x.1 * y.1 % p,1)
def Zgc (p k:Int):Int × Int:=if p = 0 then (k,1) else (k % p,1)
theorem Isn.pos {p:Int} {x:Int × Int} (h:Isn p x):0 < x.2:=by
 rcases h with ⟨_,h⟩ | ⟨_,_,_,h⟩
 .exact h.1
 .omega
theorem Zm1 {p a b:Int} (hp:p = 0) (hb:0 < b):Isn p (nrm a b):=.inl ⟨hp,Zqh hb⟩
theorem Zm2 {p a:Int} (hp:0 < p):Isn p (a % p,1):=.inr ⟨hp,Jbr _ (by omega),Jbg _ hp,rfl⟩
theorem Zft {p:Int} {x y:Int × Int} (h0:0<=p) (hx:Isn p x) (hy:Isn p y):Isn p (Zc5 p x y):=by
 unfold Zc5;split
 .rename_i h; exact Zm1 h (Jc2 hx.pos hy.pos)
 .exact Zm2 (by omega)
theorem Zbn {p:Int} {x y:Int × Int} (h0:0<=p) (hx:Isn p x) (hy:Isn p y):Isn p (Zba p x y):=by
 unfold Zba;split
 .rename_i h; exact Zm1 h (Jc2 hx.pos hy.pos)
 .exact Zm2 (by omega)
theorem Zdd {p k:Int} (h0:0<=p):Isn p (Zgc p k):=by
 unfold Zgc;split
 .rename_i h; exact .inl ⟨h,⟨by show (0:Int) < 1; decide,by simp⟩⟩
 .exact Zm2 (by omega)
theorem Znz (a b:Int):Int.gcd b (a % b) = Int.gcd a b:=by
 rw [Int.emod_def,Int.sub_eq_add_neg,<- Int.mul_neg,Int.gcd_add_mul_left_right,Je5]
theorem Bd.big {B:Nat} {x:Int × Int} (h:Bd B x) (hB:B < 100000000000000000000000000000000):Big x.1/\Big x.2:=by
 obtain ⟨h1,h2⟩:=h;exact ⟨⟨by omega,by omega⟩,⟨by omega,by omega⟩⟩
structure FunD (K:PySem.W.Frag) (x qual:Str) (st:Stmt) (f:Addr) (fd:FuncData) (T:Addr):Prop where
 ex:∃ (oc:Value) (od:Option Addr) (kV doc pm:Value) (an:Option Addr) (cdv ct:Value) (osl:Array (Option Value)),
  fd = PySem.W.fnOf x qual (Zam st) (Zak st) (Zad st) (.ref T) kV doc pm an cdv ct/\K.lookup f = some ⟨oc,od,.func fd,osl⟩/\PySem.W.codeIn K cdv qual = true
section
variable {P:Program} {w:World} {K:PySem.W.Frag} {mg:Str->Option Value} {base:Heap}
theorem FunD.ok {x qual:Str} {st:Stmt} {f T:Addr} {fd:FuncData} {N ps:List Str} {k:Nat} {sp:Sp} (F:FunD K x qual st f fd T) (S:FnScope N ps (Zad st)) (len:∀ vs H Q E,sp vs H Q E->vs.length = ps.length)
  (hbody:∀ (cdv:Value) (A:Around) (outer:List Env) (s:Shared) (H:Hp) (vs:List V) (Q:VK) (E:XK),Room k (A.deeper (envOfC qual (Zad st) s.heap.objs.size f cdv))->sp vs H Q E->
   ∃ t,PSs (Zt4 CX0 P w K mg base N qual (Zad st) f cdv A outer s H E).nox (Zak st) t/\t { nx:=λ_ H'=>Q .non H',rt:=Q } (start N vs) H):FnOk P w K mg base CX0 (k + 1) f fd ps sp:=by
 obtain ⟨oc,od,kV,doc,pm,an,cdv,ct,osl,rfl,lk,hcd⟩:=F.ex;refine fn_of lk hcd S len λA outer s H vs Q E hr hsp=>?_;obtain ⟨t,h,q⟩:=hbody cdv A outer s H vs Q E hr hsp;exact ⟨t,h.nox,q⟩
end
structure CalD (P:Program) (w:World) (K:PySem.W.Frag) (mg:Str->Option Value) (base:Heap) (C:Addr) (m:Str) (k:Nat) (sp:Sp) (dvs:List V):Prop where
 ex:∃ (f:Addr) (fd:FuncData) (ps:List Str) (ds:List Value),FnOk P w K mg base CX0 k f fd ps sp/\Meth K C m f/\Binds K fd ps ds/\Vals dvs ds
theorem Zio {X:Cx} {m:Str} {C:Addr} {k:Nat} {sp:Sp} {dvs:List V} {o e:Expr} {es:List Expr} {ta:TE} {t:TA} {apos pos:Pos} {pl:Sem Bool} (c:Cls X.K C) (M:CalD X.prog X.w X.K X.mg X.base C m k sp dvs) (hr:Room k X.A) (ho:PE X o ta) (ha:PA X (e :: es) t)
  (h:Zb3 e = false:=by rfl) (h2:es.all (λx=>!Zb3 x) = true:=by rfl)
  (ht:eval (.Call (.Attribute o m apos) (e :: es) [] pos) X.env = (do
   let ov <- eval o X.env
   standAt apos.atName
   let (f,first) <- holding [ov] (getMethod ov m pl)
   callWith pos f first (backTo pos (starEach (e :: es) X.env)) (backToKw pos (keywordEach [] X.env))):=by rfl):
  PE X (.Call (.Attribute o m apos) (e :: es) [] pos) (tMeth C m sp dvs E0 ta t):=by
 obtain ⟨f,fd,ps,ds,F,hm,hb,hd⟩:=M.ex;exact pe_meth ho c hm F hr hb hd pass0 ha (Za8 h) (Zfk h2) ht
theorem Zgt {K:PySem.W.Frag} {fd:FuncData} {ps:List Str} {T:Addr} {oc:Value} {od:Option Addr} {osl:Array (Option Value)} {items:Array Value} {n:Nat} {ds:List Value} (lk:K.lookup T = some ⟨oc,od,.seq items n,osl⟩) (hd:fd.defaults = .ref T)
  (h:∀ us:List Value,(us ++ ds).length = ps.length->∃ k,bindArgs fd ⟨us,[]⟩ = seqItems? fd.defaults >>= k/\k (some items) = pure (ps.zip (us ++ ds))):Binds K fd ps ds:=λs us KX hl=>by
 obtain ⟨k,h1,h2⟩:=h us hl;exact .of_defaults hd (KX T _ lk) rfl h1 h2
def rEqN (K:PySem.W.Frag):R2:=λx y H Q=>rEq x y H Q\/Zsu K false x y H Q
def rNeN (K:PySem.W.Frag):R2:=λx y H Q=>rNe x y H Q\/Zsu K true x y H Q
theorem Zux {X:Cx} (hu:X.A.units + 8 < cLine):OpR X (compareOp .Eq) (rEqN X.K):=Zem.or (Zuw hu)
theorem op_neN {X:Cx} (hu:X.A.units + 8 < cLine):OpR X (compareOp .NotEq) (rNeN X.K):=Zgn.or (Zgm hu)
theorem pair_eq {K:PySem.W.Frag} {H:Hp} {t u:Addr} {a b:Int} (neg:Bool) {Q:VK} (ht:H t = some (.tup [.int a,.int b])) (hu:H u = some (.tup [.int a,.int b])) (q:Q (.bl !neg) H):Zsu K neg (.ref t) (.ref u) H Q:=by
 have e:∀ i:Int,eqV (.int i) (.int i) = true:=λi=>by simp [eqV]
 refine ⟨t,u,_,_,[true,true],rfl,rfl,SqT.of ht,SqT.of hu,⟨rfl,rfl,λj x y c e1 e2 e3=>?_⟩,?_⟩
 .match j,e1,e2,e3 with
  | 0,e1,e2,e3=>
   cases e1; cases e2; cases e3;have:=EqD.flat (K:=K) (H:=H) (n:=6) (x:=.int a) (y:=.int a) rfl rfl;rw [e] at this;exact this
  | 1,e1,e2,e3=>
   cases e1; cases e2; cases e3;have:=EqD.flat (K:=K) (H:=H) (n:=6) (x:=.int b) (y:=.int b) rfl rfl;rw [e] at this;exact this
  | j + 2,e1,_,_=>cases e1
 .cases neg <;> exact q
def rBits:V->List V->Hp->VK->Prop:=λx vs H Q=>∃ i:Int,x = .int i/\vs = []/\Q (.int ((Builtin.Int.intBits i:Nat):Int)) H
theorem Zmx {X:Cx}:MtM X "int.bit_length" rBits:=by
 intro pins s σ H x vs v us Q I rx rv h;obtain ⟨i,rfl,rfl,q⟩:=h;obtain ⟨t,rfl⟩:=rx;have hus:=rv.zero;subst hus;exact call_gives F.slot_int_bit_length (typeIs_int s i t) F.entry_int_bit_length (F.args_int_bit_length_1 _) (AutoIntG2.int_bit_length_int_0 i t) ⟨.int ((Builtin.Int.intBits i:Nat):Int),H,I.tok _,⟨_,rfl⟩,q⟩
theorem bits_le {i:Int} {n:Nat} (h:i.natAbs < 2 ^ n):Builtin.Int.intBits i<=n:=by
 unfold Builtin.Int.intBits;split
 .exact Jb3 _
 .rename_i h0
  have h1:i.natAbs ≠ 0:=by
   intro e;exact h0 (by simp [Int.natAbs_eq_zero.mp e])
  exact (Nat.log2_lt h1).mpr h
end L2
namespace L2
open PySem PySem.Spec PyProof.Rows
def Ite (K:PySem.W.Frag) (a:Addr):It:=
 ⟨λi H=>∃ xs x,SqL K H a xs/\xs[i]? = some x,λi H v H'=>∃ x p,v = .ref p/\H p = none/\H' = upd H p (.tup [.int i,x])/\(∀ xs,SqL K H a xs->xs[i]? = some x),λi H=>∃ xs,SqL K H a xs/\xs.length<=i⟩
theorem Zsd {P:Program} {w:World} {K:PySem.W.Frag} {elts:List Expr} {x1:Nat} {pos:Pos} {e i1 a:Addr} (hne:e ≠ i1):
  Turn P w K (.Tuple elts x1 pos) (Ite K a) [e,i1] e (λi h=>(∃ old,IsEnum h e i1 (i:Int) old)/\h.IsListIter i1 a i) where
 mem:=by simp
 obj:=λi h st c hc=>by
  obtain ⟨⟨old,hz⟩,⟨o1,e1,c1,d1⟩⟩:=st;simp at hc;rcases hc with rfl | rfl
  .exact ⟨_,hz,λv z=>by have z':Data.fields _ = Data.cell v:=z; cases z'⟩
  .exact ⟨o1,e1,λv z=>by rw [d1] at z; cases z⟩
 keep:=λi h h' st k=>by
  obtain ⟨⟨old,hz⟩,h1⟩:=st;exact ⟨⟨old,k e (by simp) _ hz⟩,h1.at λo e=>k i1 (by simp) o e⟩
 item:=by
  intro X hP hw hK hc i pins s σ H E I hf st hg;subst hP hw hK;obtain ⟨xs,x,hqa,hx⟩:=hg;obtain ⟨its,rv,p,hz1⟩:=I.list hqa;obtain ⟨u,hu,ru⟩:=rv.get hx;obtain ⟨⟨old,hz⟩,h1⟩:=st;refine wpAny_pyNext_enum_item hz h1 p.isList (by simpa using hu) hne λh' a1 a2 a3 a4 a5=>?_;refine ⟨_,rfl,wpAny_letOwnedTupleGo_enum a1 λh'' b1 b2=>?_⟩;have nz:s.heap.objs.size ≠ e:=Jby (Jak hz);have k2:∀ c o,c ∉ [e,i1]->s.heap.get? c = some o->h''.get? c = some o:=λc o hc q=>by
   simp at hc;exact b2.extBut _ _ hc.1 (a5 c o hc.1 hc.2 q)
  have I2:Inv X pins σ (upd H s.heap.objs.size (.tup [.int i,x])) { s with heap:=h'',toks:=s.toks + 1 }:=I.turnedT (t':=s.toks + 1) hf k2 (Jag _)
   ⟨by show 2<=sizeLine; decide,[.int i s.toks,u],.cons ⟨_,rfl⟩ (.cons ru .nil),_,b2.extBut _ _ nz a3,rfl,_,rfl⟩
  refine ⟨.ref s.heap.objs.size,_,I2,rfl,⟨x,_,rfl,I.hok.fresh (Jag _),rfl,λxs' hq=>by rw [I.list_inj hq hqa]; exact hx⟩,
   ⟨⟨x |> λ_=>u,by simpa using b1⟩,a2.extBut b2.extBut hne.symm⟩,λc hc=>?_⟩
  have hlt:∀ c ∈ [e,i1],c < s.heap.objs.size:=λc hc=>by
   simp at hc;obtain ⟨o1,e1,_⟩:=h1;rcases hc with rfl | rfl
   .exact Jak hz
   .exact Jak e1
  rw [Zal (Ja6 (hlt c hc))];exact (hf c hc).1
 done:=by
  intro X hP hw hK hc i pins s σ H E I hf st hg;subst hP hw hK;obtain ⟨xs,hqa,hx⟩:=hg;obtain ⟨its,rv,p,hz1⟩:=I.list hqa;obtain ⟨⟨old,hz⟩,h1⟩:=st;have l1:=rv.length;refine wpAny_pyNext_enum_end (I.ok.hd hc) hz h1 p.isList (by simp; omega) λh' kk=>⟨rfl,I.turnedL (t':=s.toks) hf λc o hc q=>?_⟩
  simp at hc;exact kk c o hc.2 q
 self:=λ_ _ _ _ _ st h=>by
  obtain ⟨⟨old,hz⟩,h1⟩:=st;exact Jfd hz h
section
variable {X:Cx}
def iEnm (K:PySem.W.Frag) (ta:TA):TI:=λσ H R=>ta σ H λvs H1=>∃ a,vs = [.ref a]/\(∃ xs,SqL K H1 a xs)/\R (Ite K a) H1
theorem Zuq {elts:List Expr} {x1:Nat} {pt p pos:Pos} {a:Expr} {ta:TA} (hg:Gl X "enumerate") (hm:X.mg "enumerate" = none) (ha:PA X [a] ta) (h:Zb3 a = false:=by rfl):
  PI X (.Tuple elts x1 pt) (.Call (.Name "enumerate" p) [a] [] pos) (iEnm X.K ta):=by
 intro pins s σ H R I hh;refine Call_ (Zfg I hg hm boot_enumerate (Jbq (thn (ha pos pins s σ H _ I hh) λus s1 ⟨vs,H1,I1,r1,q1⟩=>?_) (by rw [Za8 h]) (by rfl)));obtain ⟨c,e,⟨xs,hq1⟩,q⟩:=q1;subst e;cases r1 with
 | cons r rr=>
   cases rr;cases r;obtain ⟨its,rv,p1,hz1⟩:=I1.list hq1;refine call_enumerate_list p1.isList λh' a1 a2 a3 a4=>Jfd (s:={ s1 with heap:=h' }) a1 ?_;refine ⟨_,_,_,_,H1,rfl,I1.kept (t':=s1.toks) a4,Zsd (Nat.succ_ne_self _),⟨⟨_,a1⟩,a2⟩,λb hb=>?_,q⟩;have hb':s1.heap.objs.size<=b:=by
    simp at hb;rcases hb with rfl | rfl
    .exact Jdn _ _
    .exact Jag _
   have:=(I1.fpOk (H':=H1) hb' (I1.hok.fresh hb'))
   exact this
end
section
variable {K:PySem.W.Frag} {a b D:Addr} {xs ys:List V} {g:TG} {tt:TT} {te:TE} {k:Nat} {fr:List (Str × Nat)} {σ:St} {H1:Hp} {Q:VK}
theorem for_enm {tb:TS} {Dn:Ends} {σ:St} {H:Hp} (Pv:Nat->St->Hp->Prop) (h0:Pv 0 σ H) (hl:∀ i σ H,i<=xs.length->Pv i σ H->SqL K H a xs)
  (hs:∀ (i:Nat) x p σ H,xs[i]? = some x->H p = none->Pv i σ H->g (.ref p) σ (upd H p (.tup [.int i,x])) λσ2 H2=>tb { Dn with nx:=Pv (i + 1),ct:=Pv (i + 1),bk:=Dn.nx } σ2 H2) (hd:∀ σ H,Pv xs.length σ H->Dn.nx σ H):
  ∃ W:Nat->Nat->St->Hp->Prop,(∃ m,W 0 m σ H)/\∀ i m σ H,W i m σ H->
   ((Ite K a).stop i H/\Dn.nx σ H)\/((Ite K a).go i H/\∃ N:St->Hp->Prop,(∀ σ' H',N σ' H'->∃ m',m' < m/\W (i + 1) m' σ' H')/\∀ x H',(Ite K a).yld i H x H'->g x σ H' λσ2 H2=>tb { Dn with nx:=N,ct:=N,bk:=Dn.nx } σ2 H2):=by
 refine ⟨λi m σ H=>m = xs.length - i/\i<=xs.length/\Pv i σ H,⟨xs.length,by simp,Jb3 _,h0⟩,?_⟩;rintro i m σ H ⟨rfl,hi,p⟩;have q:=hl i σ H hi p;by_cases hlt:i < xs.length
 .refine .inr ⟨⟨xs,xs[i],q,by simp [hlt]⟩,Pv (i + 1),λσ' H' p'=>⟨xs.length - (i + 1),oz21 hlt,rfl,hlt,p'⟩,λx H' y=>?_⟩;obtain ⟨u,pp,rfl,hp,rfl,e1⟩:=y;exact hs i u pp σ _ (e1 xs q) hp p
 .have e:i = xs.length:=by exact Zs3 hi hlt
  subst e;exact .inl ⟨⟨xs,q,Jag _⟩,hd σ H p⟩
theorem Zt8 (Pv:Nat->List V->Hp->Prop) (h0:Pv 0 [] (upd H1 D (.lst []))) (hl:∀ i vs H,i<=xs.length->Pv i vs H->SqL K H a xs)
  (hs:∀ (i:Nat) x p vs σ' H,i < xs.length->xs[i]? = some x->H p = none->Sh k (Zbp fr σ) σ'->Pv i vs H->Zf6 g tt te D xs.length k (Zbp fr σ) Pv i (.ref p) σ' (upd H p (.tup [.int i,x]))) (hd:∀ vs H,Pv xs.length vs H->Q (.ref D) H):
  Zcg g tt te (Ite K a) D (Zgr k fr σ) H1 Q:=by
 refine ⟨Wv xs.length k (Zbp fr σ) Pv,⟨xs.length,by simp,Jb3 _,sh0,[],h0⟩,?_⟩;rintro i m σ' H2 ⟨rfl,hi,sh,vs,p⟩;have q1:=hl i vs H2 hi p;by_cases hlt:i < xs.length
 .refine .inr ⟨⟨xs,xs[i],q1,by simp [hlt]⟩,λx H3 y=>?_⟩;obtain ⟨u,pp,rfl,hp,rfl,e1⟩:=y;exact hs i u pp vs σ' _ hlt (e1 _ q1) hp sh p
 .have e:i = xs.length:=by exact Zs3 hi hlt
  subst e;exact .inl ⟨⟨xs,q1,Jag _⟩,hd vs H2 p⟩
end
end L2
namespace L2
open PySem PySem.Spec PyProof.Rows PySem.W
structure Trk (B:Heap) (fr:List Env) (e:Addr) (cls c0 fl:Value) (h:Heap):Prop where
 st:B.StaysIn h
 nw:B.get? e = none
 ff:h.FunFrames B fr
 ob:∃ (o:Obj) (vs:Array Value) (T:Addr) (oT:Obj) (us:Array Value),h.get? e = some o/\o.cls = cls/\o.data = .fields vs/\vs[2]? = some c0/\vs[1]? = some (.ref T)/\B.get? T = none/\T ≠ e/\h.get? T = some oT/\oT.data = .fields us/\us[3]? = some fl
section
variable {M:Model} {A:Around} {E:Value->Shared->Prop} {s:Shared} {B:Heap} {fr:List Env} {e L:Addr} {cls c0:Value} {Q:Unit->Shared->Prop}
end
end L2
namespace L2
open PySem PySem.Spec PyProof.Rows PySem.W
structure Fly (P:Program) (w:World) (outer:List Env) (H:Hp) (s:Shared) (a:Addr) (cls c0:Value) (H':Hp) (s':Shared):Prop where
 os:s'.os = s.os
 bare:AllBare s'.gens
 hok:HOk P w H' s'.heap
 un:Un (frs outer) [] H H' s.heap s'.heap
 fly:∃ B,Trk B outer a cls c0 .none s'.heap/\(∀ b o,s.heap.get? b = some o->b ∉ frs outer->∃ o',B.get? b = some o')/\∀ b u,H' b = some u->∃ o',B.get? b = some o'
 new:∀ o,s.heap.get? a ≠ some o
 free:H' a = none
def CXe (P:Program) (w:World):CXT:=λouter H s E e s'=>∃ (a:Addr) (cls c0:Value) (H':Hp),e = .ref a/\Fly P w outer H s a cls c0 H' s'/\E cls none H'/\(c0 = .none\/E cls (some 0) H')
section
variable {P:Program} {w:World} {K:PySem.W.Frag} {mg:Str->Option Value} {base:Heap} {N:List Str} {qual:Str} {scope:Scope} {f:Addr} {cd:Value} {A:Around} {outer:List Env} {s:Shared} {H:Hp} {E:XK} {pins:List (Addr × Obj)} {σ:St} {H1:Hp} {s1 s2:Shared} {e:Addr} {cls:Value}
end
end L2
namespace L2
open PySem PySem.Spec PyProof.Rows PySem.W
def tRaise (t:TA) (R:Hp->Prop):TS:=λ_ σ H=>t σ H λvs H1=>vs.length<=1000/\R H1
section
variable {X:Cx} {x:Str} {C:Addr} {bm bmN:List Value} {B Bn newId nid initId inN:String} {np cpos pos:Pos} {e₀:Expr} {rest:List Expr} {t:TA} {R:Hp->Prop}
end
end L2
namespace L2
open PySem PySem.Spec PyProof.Rows PySem.W
section
variable {P:Program} {w:World} {K:PySem.W.Frag} {mg:Str->Option Value} {base:Heap}
end
section
variable {X:Cx} {pins:List (Addr × Obj)} {σ:St} {H H':Hp} {s s':Shared} {a:Addr} {cls:Value}
end
end L2
namespace L2
open PySem PySem.Spec PyProof.Rows PySem.W
section
variable {M:Model} {A:Around} {E:Value->Shared->Prop}
variable {nm q:Str} {C N:Addr} {bs bm:List Value} {hdct:Bool} {sn:List Str} {sub:List Value} {ab:Bool} {col:Option Bool} {dd:Option Addr} {k0 k1 k2 k3 k5:Option Value} {newId:String}
variable {nm' q':Str} {C' N':Addr} {bs' bm':List Value} {hdct':Bool} {sn':List Str} {sub':List Value} {ab':Bool} {col':Option Bool} {dd':Option Addr} {j0 j1 j2 j3 j5:Option Value} {newId':String}
end
end L2
namespace L2
open PySem PySem.Spec PyProof.Rows PySem.W
abbrev Cx.pnx (X:Cx) (pins:List (Addr × Obj)):Cx:={ X with pn:=X.pn ++ pins }
abbrev Cx.hnd (X:Cx) (pins:List (Addr × Obj)) (a:Addr):Cx:={ X with pn:=X.pn ++ pins,A:=X.A.mark (some (.ref a)),calm:=false,xe:=λ_ _=>False }
section
variable {X:Cx} {pins pins':List (Addr × Obj)} {σ:St} {H:Hp} {s:Shared} {a:Addr}
theorem Inv.pnx (I:Inv X pins σ H s):Inv (X.pnx pins) [] σ H s:=
 ⟨⟨I.ok.mod,I.ok.kind,I.ok.glob,I.ok.blt,I.ok.above,I.ok.inj,I.ok.has,I.ok.cab,I.ok.hd,I.ok.frames,I.ok.stk,I.ok.exf,I.ok.bs,I.ok.bsz,I.ok.noex,I.ok.exfs,I.ok.funs,I.ok.frf,I.ok.top⟩,I.os,I.bare,I.base,I.loc,I.cell,I.free,I.freeC,λp hp=>I.pin p (by simpa using hp),I.hok,I.len⟩
theorem Inv.hnd (I:Inv X pins σ H s) (a:Addr):Inv (X.hnd pins a) [] σ H s:=
 ⟨⟨I.ok.mod,I.ok.kind,I.ok.glob,I.ok.blt,I.ok.above,I.ok.inj,I.ok.has,I.ok.cab,(λz=>nomatch z),I.ok.frames,I.ok.stk,I.ok.exf,I.ok.bs,I.ok.bsz,I.ok.noex,I.ok.exfs,I.ok.funs,I.ok.frf,I.ok.top⟩,I.os,I.bare,I.base,I.loc,I.cell,I.free,I.freeC,λp hp=>I.pin p (by simpa using hp),I.hok,I.len⟩
theorem Inv.track {o:HO} (I:Inv X pins σ H s) (hn:H a = none) (h0:∀ u,X.s₀.heap.get? a ≠ some u) (hL:a ≠ X.env.locals) (hc:∀ x c,X.env.cells.lookup x = some c->c ≠ a) (hp:∀ p ∈ X.pn ++ pins,p.1 ≠ a)
  (new:ObjOk X.prog X.w (upd H a o) s.heap a o):Inv X pins σ (upd H a o) s:=by
 have ne:∀ {b:Addr} {u:HO},H b = some u->b ≠ a:=λ{b u} hb z=>by rw [z,hn] at hb; cases hb
 refine ⟨I.ok,I.os,I.bare,⟨I.base.keep,I.base.slot,λb u q n hx=>?_,I.base.there,λb xs z=>?_,λb u v z=>?_,λb ps z=>?_⟩,I.loc,I.cell,?_,λx c e=>?_,λp hp'=>?_,λb u hb=>?_,I.len⟩
 .rw [Zal (λz=>h0 u (by rw [<- z]; exact q))];exact I.base.free b u q n hx
 .have:=I.base.tups b xs z;rw [Zal (ne this)];exact this
 .have:=I.base.frzs b u v z;rw [Zal (ne this)];exact this
 .obtain ⟨m,e⟩:=I.base.tbls b ps z;exact ⟨m,by rw [Zal (ne e)]; exact e⟩
 .rw [Zal hL.symm]; exact I.free
 .rw [Zal (hc x c e)]; exact I.freeC x c e
 .obtain ⟨p1,p2,p3,p4,p5⟩:=I.pin p hp';exact ⟨p1,by rw [Zal (hp p hp')]; exact p2,p3,p4,p5⟩
 .by_cases hb':b = a
  .subst hb';rw [Zab] at hb;cases hb;exact new
  .rw [Zal hb'] at hb;exact (I.hok b u hb).stay (λ_ _ _ q=>q) (λc z=>by rw [Zal (ne z)]; exact z) (λc xs z=>by rw [Zal (ne z)]; exact z) λc _ _ z=>by rw [Zal (ne z)]; exact z
end
def isExc (a:Addr) (cls:Value):HO:=.ext λh=>∃ ob,h.get? a = some ob/\ob.cls = cls
def hEnds (X:Cx) (D:Ends):Ends:={ nx:=λ_ H=>D.nx (List.replicate X.N.length none) H,rt:=D.rt,bk:=λ_ H=>D.bk (List.replicate X.N.length none) H,ct:=λ_ H=>D.ct (List.replicate X.N.length none) H }
def tTry (X:Cx) (E':XK) (tb:TS) (i:Nat) (th:TS):TS:=λD σ H=>tb D σ H/\∀ (cls:Value) (H':Hp) (a:Addr) (σ':St),E' cls none H'->H' a = none->σ'.length = X.N.length->th (hEnds X D) (σ'.set i (some (.ref a))) (upd H' a (isExc a cls))
section
variable {X:Cx} {x n:Str} {np hpos pos:Pos} {body suite:List Stmt} {b₀:Stmt} {E':XK} {tb th:TS} {i:Nat} {D:Addr} {bmD:List Value} {newD:String}
end
end L2
namespace L2
open PySem PySem.Spec PySem.Calls PyProof.Rows PySem.W Builtin Builtin.ObjectAttr Builtin.Getset_descriptor
structure ExcCls (K:PySem.W.Frag) (C:Addr):Prop where
 ga:findIn K (.ref C) "__getattribute__" = some (some (.builtin "BaseException.__getattribute__"))
 gt:findIn K (.ref C) "__getattr__" = some none
 cl:findIn K (.ref C) "__class__" = some (some (.builtin "object.__class__"))
 so:mroIn K C (.type "object") = some true
 sb:mroIn K C (.type "BaseException") = some true
section
variable {prog:Program} {w:World} {A:Around} {E:Value->Shared->Prop} {h:Heap} {g:Array GenState} {d:Drawn} {t:Nat} {os:OsState} {a C:Addr} {ox:Obj} {K:PySem.W.Frag}
end
end L2
namespace L2
open PySem PySem.Spec PyProof.Rows PySem.W
section
variable {X:Cx}
end
end L2
namespace L2
open PySem PySem.Spec PyProof.Rows PySem.W
structure CalE (P:Program) (w:World) (K:PySem.W.Frag) (mg:Str->Option Value) (base:Heap) (x:Str) (k:Nat) (sp:Sp):Prop where
 ex:∃ (f:Addr) (fd:FuncData) (ps:List Str),FnOk P w K mg base (CXe P w) k f fd ps sp/\mg x = some (.ref f)/\PySem.W.keepIn K (.ref f) = true/\Binds K fd ps []
structure CalME (P:Program) (w:World) (K:PySem.W.Frag) (mg:Str->Option Value) (base:Heap) (C:Addr) (m:Str) (k:Nat) (sp:Sp):Prop where
 ex:∃ (f:Addr) (fd:FuncData) (ps:List Str),FnOk P w K mg base (CXe P w) k f fd ps sp/\Meth K C m f/\Binds K fd ps []
structure CalIE (P:Program) (w:World) (K:PySem.W.Frag) (mg:Str->Option Value) (base:Heap) (x:Str) (C:Addr) (k:Nat) (sp:Sp):Prop where
 ex:∃ (f:Addr) (fd:FuncData) (ps:List Str),FnOk P w K mg base (CXe P w) k f fd ps sp/\Mk K C f/\mg x = some (.ref C)/\Binds K fd ps []
section
variable {X:Cx} {x m:Str} {k:Nat} {sp:Sp} {e o:Expr} {es:List Expr} {ta:TE} {t:TA} {p pos apos:Pos} {E:XK} {C:Addr}
end
theorem hnd_K {X:Cx} {pins:List (Addr × Obj)} {a:Addr}:(X.hnd pins a).K = X.K:=rfl
theorem pnx_K {X:Cx} {pins:List (Addr × Obj)}:(X.pnx pins).K = X.K:=rfl
structure CalDE (P:Program) (w:World) (K:PySem.W.Frag) (mg:Str->Option Value) (base:Heap) (C:Addr) (m:Str) (k:Nat) (sp:Sp) (dvs:List V):Prop where
 ex:∃ (f:Addr) (fd:FuncData) (ps:List Str) (ds:List Value),FnOk P w K mg base (CXe P w) k f fd ps sp/\Meth K C m f/\Binds K fd ps ds/\Vals dvs ds
section
variable {P:Program} {w:World} {K:PySem.W.Frag} {mg:Str->Option Value} {base:Heap} {N:List Str} {qual:Str} {scope:Scope} {f:Addr} {cd:Value} {A:Around} {outer:List Env} {s:Shared} {H:Hp} {E:XK}
end
end L2
namespace L2
open PySem PySem.Spec PyProof.Rows
structure RoomH (k:Nat) (A:Around):Prop where
 dp:A.depth + 3 * k + 205 < recursionLimit
 un:A.units + 16 * k + 200 < cLine
theorem Room.mark {k:Nat} {A:Around} (r:Room k A) (v:Option Value):RoomH k (A.mark v):=⟨r.dp,r.un⟩
structure FnOkH (P:Program) (w:World) (K:PySem.W.Frag) (mg:Str->Option Value) (base:Heap) (CX:CXT) (k:Nat) (f:Addr) (fd:FuncData) (ps:List Str) (sp:Sp):Prop where
 len:∀ vs H Q E,sp vs H Q E->vs.length = ps.length
 run:∀ (A:Around) (outer:List Env) (s:Shared) (H:Hp) (args:Args) (us:List Value) (vs:List V) (Q:VK) (E:XK),RoomH k A->Env0 P w K mg base A outer s H->BindsTo s fd args (ps.zip us)->Vals vs us->sp vs H Q E->
  codeAny (model P w) A (.call (.ref f) args) (CR CX outer P w H s Q E) s
section
variable {P:Program} {w:World} {K:PySem.W.Frag} {mg:Str->Option Value} {base:Heap}
structure CalH (P:Program) (w:World) (K:PySem.W.Frag) (mg:Str->Option Value) (base:Heap) (x:Str) (k:Nat) (sp:Sp):Prop where
 ex:∃ (f:Addr) (fd:FuncData) (ps:List Str),FnOkH P w K mg base CX0 k f fd ps sp/\mg x = some (.ref f)/\PySem.W.keepIn K (.ref f) = true/\Binds K fd ps []
end
section
variable {X:Cx} {CX:CXT} {k:Nat} {f C:Addr} {fd:FuncData} {ps:List Str} {sp:Sp} {dvs:List V} {ds:List Value} {E:XK} {x m:Str} {p pos apos:Pos} {e o:Expr} {es:List Expr} {ta:TE} {t:TA}
end
section
variable {X:Cx}
def rNeTs (K:PySem.W.Frag):R2:=λx y H Q=>rNe x y H Q\/Zsu K true x y H Q
theorem op_neTs (hu:X.A.units + 8 < cLine):OpR X (compareOp .NotEq) (rNeTs X.K):=Zgn.or (Zgm hu)
end
end L2
namespace L2
open PySem PySem.Spec PyProof.Rows
end L2
namespace L2
open PySem PySem.Spec PyProof.Rows
theorem Zm7:typeLookup (.type "enumerate") "__len__" = pure none:=by rw [typeLookup_type,builtinLookup_eq_fast]; kernel_rfl
theorem Zlv:typeLookup (.type "enumerate") "__length_hint__" = pure none:=by rw [typeLookup_type,builtinLookup_eq_fast]; kernel_rfl
section
variable {prog:Program} {w:World} {A:Around} {s:Shared} {E:Value->Shared->Prop}
end
section
variable {X:Cx}
end
def Itv (K:PySem.W.Frag) (a:Addr) (n:Nat):It:=
 ⟨λi H=>∃ xs,SqL K H a xs/\xs.length = n/\i < n,λi H v H'=>H' = H/\∀ xs,SqL K H a xs->xs[n - 1 - i]? = some v,λi H=>∃ xs,SqL K H a xs/\xs.length = n/\i = n⟩
theorem Zsc {P:Program} {w:World} {K:PySem.W.Frag} {tg:Expr} {it a:Addr} {n:Nat} (hne:a ≠ it):Turn P w K tg (Itv K a n) [it] it (λi h=>h.IsRevIter it a ((n:Int) - 1 - (i:Int))) where
 mem:=by simp
 obj:=λi h st c hc=>by
  obtain ⟨o1,e1,c1,d1⟩:=st;simp at hc;subst hc;exact ⟨o1,e1,λv z=>by rw [d1] at z; cases z⟩
 keep:=λi h h' st k=>st.at λo e=>k it (by simp) o e
 item:=by
  intro X hP hw hK hc i pins s σ H E I hf st hg;subst hP hw hK;obtain ⟨xs,hqa,hn,hi⟩:=hg;obtain ⟨its,rv,p,hz1⟩:=I.list hqa;have hx:xs[n - 1 - i]? = some (xs[n - 1 - i]'(by omega)):=Jaa _;obtain ⟨u,hu,ru⟩:=rv.get hx;have e:(n:Int) - 1 - (i:Int) = ((n - 1 - i:Nat):Int):=by omega
  rw [e] at st;refine wpAny_pyNext_rev_item st p.isList (by simpa using hu) λh' hit' sb=>?_;obtain ⟨o',ho',hc',hd'⟩:=id hit';refine ⟨u,rfl,Ztw (s:={ s with heap:=h' }) ho' hc' hd' (by decide) ?_⟩;have f:=hf it (by simp);have I2:Inv X pins σ H { s with heap:=h' }:=I.turnedL (t':=s.toks) hf λc o hc q=>(sb.2 c (by simpa using hc)).trans q;refine ⟨_,_,I2,ru,⟨rfl,λxs' hq=>by rw [I.list_inj hq hqa]; exact hx⟩,?_,λc hc=>(hf c hc).1⟩;have e2:((n - 1 - i:Nat):Int) - 1 = (n:Int) - 1 - ((i + 1:Nat):Int):=by omega
  rw [e2] at hit';exact hit'
 done:=by
  intro X hP hw hK hc i pins s σ H E I hf st hg;subst hP hw hK;obtain ⟨xs,hqa,hn,rfl⟩:=hg;have e:(i:Int) - 1 - (i:Int) = -1:=by omega
  rw [e] at st;exact wpAny_pyNext_rev_end (I.ok.hd hc) st λh' kk=>⟨rfl,I.turnedL (t':=s.toks) hf λc o hc q=>kk c o (by simpa using hc) q⟩
 self:=λ_ _ _ _ _ st h=>wpAny_pyIter_revIter st h
theorem Zkm:bootBuiltins "reversed" = some (.type "reversed"):=by decide +kernel
section
variable {X:Cx}
def iRvl (K:PySem.W.Frag) (ta:TA):TI:=λσ H R=>ta σ H λvs H1=>∃ a xs,vs = [.ref a]/\SqL K H1 a xs/\R (Itv K a xs.length) H1
theorem pi_rvl {tg:Expr} {p pos:Pos} {a:Expr} {ta:TA} (hg:Gl X "reversed") (hm:X.mg "reversed" = none) (ha:PA X [a] ta) (h:Zb3 a = false:=by rfl):
  PI X tg (.Call (.Name "reversed" p) [a] [] pos) (iRvl X.K ta):=by
 intro pins s σ H R I hh;refine Call_ (Zfg I hg hm Zkm (Jbq (thn (ha pos pins s σ H _ I hh) λus s1 ⟨vs,H1,I1,r1,q1⟩=>?_) (by rw [Za8 h]) (by rfl)));obtain ⟨c,xs,e,hq1,q⟩:=q1;subst e;cases r1 with
 | cons r rr=>
  cases rr;cases r;obtain ⟨its,rv,p1,hz1⟩:=I1.list hq1;have hlen:=rv.length;have lt1:c < s1.heap.objs.size:=by obtain ⟨o,ho,_⟩:=p1.isList; exact Jak ho
  refine call_reversed_list p1.isList ?_;have hit:(s1.heap.push (revObj c ((its.toArray.size:Int) - 1))).IsRevIter s1.heap.objs.size c ((its.toArray.size:Int) - 1):=⟨_,Ja5 _ rfl,rfl,rfl⟩
  refine wpAny_pyIter_revIter (s:={ s1 with heap:=s1.heap.push (revObj c ((its.toArray.size:Int) - 1)) }) hit ?_;refine ⟨_,_,_,_,H1,rfl,I1.kept (t':=s1.toks) λb o e=>Jai _ e,Zsc (n:=xs.length) (Ja6 lt1),?_,λb hb=>?_,q⟩
  .have e:((xs.length:Nat):Int) - 1 - ((0:Nat):Int) = (its.toArray.size:Int) - 1:=by rw [Jaq,hlen]; omega
   show Heap.IsRevIter _ _ _ (((xs.length:Nat):Int) - 1 - ((0:Nat):Int));rw [e];exact hit
  .have hb':s1.heap.objs.size<=b:=by
    simp at hb;subst hb;exact Jag _
   exact I1.fpOk (H':=H1) hb' (I1.hok.fresh hb')
end
section
variable {K:PySem.W.Frag} {a:Addr} {xs:List V} {g:TG}
theorem for_rvl {tb:TS} {Dn:Ends} {σ:St} {H:Hp} (Pv:Nat->St->Hp->Prop) (h0:Pv 0 σ H) (hl:∀ i σ H,i<=xs.length->Pv i σ H->SqL K H a xs)
  (hs:∀ (i:Nat) x σ H,i < xs.length->xs[xs.length - 1 - i]? = some x->Pv i σ H->g x σ H λσ2 H2=>tb { Dn with nx:=Pv (i + 1),ct:=Pv (i + 1),bk:=Dn.nx } σ2 H2) (hd:∀ σ H,Pv xs.length σ H->Dn.nx σ H):
  ∃ W:Nat->Nat->St->Hp->Prop,(∃ m,W 0 m σ H)/\∀ i m σ H,W i m σ H->
   ((Itv K a xs.length).stop i H/\Dn.nx σ H)\/((Itv K a xs.length).go i H/\∃ N:St->Hp->Prop,(∀ σ' H',N σ' H'->∃ m',m' < m/\W (i + 1) m' σ' H')/\∀ x H',(Itv K a xs.length).yld i H x H'->g x σ H' λσ2 H2=>tb { Dn with nx:=N,ct:=N,bk:=Dn.nx } σ2 H2):=by
 refine ⟨λi m σ H=>m = xs.length - i/\i<=xs.length/\Pv i σ H,⟨xs.length,by simp,Jb3 _,h0⟩,?_⟩;rintro i m σ H ⟨rfl,hi,p⟩;have q:=hl i σ H hi p;by_cases hlt:i < xs.length
 .refine .inr ⟨⟨xs,q,rfl,hlt⟩,Pv (i + 1),λσ' H' p'=>⟨xs.length - (i + 1),oz21 hlt,rfl,hlt,p'⟩,λx H' y=>?_⟩;obtain ⟨rfl,e1⟩:=y;exact hs i x σ _ hlt (e1 xs q) p
 .have e:i = xs.length:=by exact Zs3 hi hlt
  subst e;exact .inl ⟨⟨xs,q,rfl,rfl⟩,hd σ H p⟩
end
end L2
namespace L2
open PySem PySem.Spec PyProof.Rows
section
variable {prog:Program} {w:World} {A:Around} {E:Value->Shared->Prop} {s:Shared}
theorem Znc {c n:Nat} (hc:c<=n):sliceBounds none (some (c:Int)) none n = ((0:Int),(c:Int),1):=by
 simp only [sliceBounds,Option.getD_none];have h2:¬ ((c:Int) < 0):=by omega
 simp only [h2,Jdu,show (1:Int) > 0 by decide,Jdf];congr 2;omega
theorem Zi1 {l b sl:Addr} {items new:Array Value} {n n2:Nat} {vl vu:Value} {c:Nat} {Q:Unit->Shared->Prop}
  (e:s.heap.get? l = some { cls:=.type "list",data:=.seq items n }) (e2:s.heap.get? b = some { cls:=.type "list",data:=.seq new n2 }) (hne:l ≠ b)
  (hs:s.heap.IsSliceOf sl vl vu .none) (pl:IsPart vl none) (pu:IsPart vu (some (c:Int))) (hc:c<=items.size)
  (hsz:items.size + new.size<=sizeLine) (h:Q () { s with heap:=s.heap.update l (Obj.mapSeq λxs=>xs.extract 0 0 ++ new ++ xs.extract c xs.size) }):
  wpAny (model prog w) A (setItem (.ref l) (.ref sl) (.ref b)) Q E s:=by
 have hl:s.heap.IsList l items:=PySem.IsL.isList e;have hb:s.heap.IsList b new:=PySem.IsL.isList e2;obtain ⟨os,hos,hcs,hds⟩:=id hs;have hTs:s.TypeIs (.ref sl) "slice" := ⟨os,hos,hcs⟩
 have hstep:¬ ((rawPart none == rawInt 0) = true):=Jax;have hsame:Builtin.List.listSameRef (.ref l) (.ref b) = false:=by
  unfold Builtin.List.listSameRef;exact Jdk.mpr hne
 have hmax:(max (0:Int) (c:Int)).toNat = c:=by omega
 have hz':((λxs:Array Value=>xs.extract 0 0 ++ new ++ xs.extract c xs.size) items).size<=sizeLine + 1:=by
  simp only [Array.size_append,Array.size_extract];omega
 unfold setItem
 try with_reducible refine Jca ?_
 first | refine Jaf (Jan ?_) | skip
 refine Jaf (wpAny_sequenceKey hl.typeIs (by decide) ?_);refine Jaf (Jdl (name:=Str.ofString "__setitem__") hl.typeIs slot_list_setitem
  (Jem slot_list_setitem hl.typeIs entry_list_setitem ?_ (args_list_setitem _ _ _)))
 show wpAny _ _ (Builtin.List.listSubscript? (.ref sl) >>= _) _ _ s;refine Jaf ?_;unfold Builtin.List.listSubscript?;refine Jaf (wpAny_specialOf hTs slice_no_index ?_);simp only [Option.isNone_none,Jdf];refine Jan ?_;show wpAny _ _ (typeOf (.ref sl) >>= _) _ _ s;refine Jaf (wpAny_typeOf hTs ?_)
 first
  | rw [if_neg (by decide)]
  | refine Je6 (by decide) ?_
 rw [listSliceParts_eq];refine Jaf (Jaf (Jc1 hos hds (x:=.none) rfl (Jaf (wpAny_listPart .none ?_))));rw [if_neg hstep];refine Jaf (Jc1 hos hds (x:=vl) rfl (Jaf (wpAny_listPart pl ?_)));refine Jaf (Jc1 hos hds (x:=vu) rfl (Jaf (wpAny_listPart pu (Jan ?_))))
 first
  | simp only [hsame,Jcn,Jdu]
  | refine Je6 hsame ?_
  | (dsimp only; rw [if_neg (by rw [hsame]; exact Jax)])
 refine Jaf (m:=Builtin.List.listAllItems (.ref b) "must assign iterable to extended slice") ?_;unfold Builtin.List.listAllItems;refine Jaf (wpAny_typeOf hb.typeIs ?_)
 first
  | refine PySem.W.KFB.if_so (by decide) ?_
  | rw [if_pos (by decide)]
  | simp only [beq_self_eq_true,Bool.true_or,Jdf]
 unfold Builtin.List.listItems;refine Jaf (Jd4 e2 rfl (Jan ?_));refine Jaf (Jaf (Jd4 e rfl (Jan ?_)));refine Jaf (wpAny_of_eq ((sliceIndices_raw none (some (c:Int)) none items.size (by simp)).trans (Jdz (pure:Int × Int × Int->Sem (Int × Int × Int)) (Znc hc))) ?_);show wpAny _ _ (if ((1:Int) == 1) = true then _ else _) _ _ s;rw [if_pos (by decide)];refine Jaf (Jfm ?_)
 first
  | simp only [Zhv hsz,Jcn,Jdu]
  | refine Je6 (Zhv hsz) ?_
 first | refine Jaf (Jan ?_) | skip
 show wpAny _ _ (updateSeq l (λxs=>xs.extract 0 ((0:Int)).toNat ++ new ++ xs.extract (max (0:Int) (c:Int)).toNat xs.size) >>= _) _ _ s;rw [hmax,show (0:Int).toNat = 0 from rfl];refine Jaf (Jc3 (hz:=Jat (Jdn _ _) hsz) (_hz':=hz') e rfl ?_);refine Jaf (Jev ?_)
 first
  | exact Jaf (Jan (Jan ⟨.none,rfl,Jan h⟩))
  | exact Jan ⟨.none,rfl,Jan h⟩
end
end L2
namespace L2
open PySem PySem.Spec PyProof.Rows
abbrev Zkp (h:Heap) (e it:Addr) (i:Int) (item:Value) (a:Addr) (f:Bool):Prop:=
 h.get? e = some { cls:=.type "enumerate",dict:=none,data:=.fields #[rawInt a,.bool f,.ref it,rawInt i,.none,item],slots:=#[] }
section
variable {prog:Program} {w:World} {A:Around} {s:Shared} {E:Value->Shared->Prop}
theorem Zkg {e it l a:Addr} {f:Bool} {oa:Obj} {i:Nat} {items:Array Value} {x old:Value} {Q:Option Value->Shared->Prop}
  (he:Zkp s.heap e it i old a f) (ha:s.heap.get? a = some oa) (hae:a ≠ e) (hai:a ≠ it) (hit:s.heap.IsListIter it l i) (hl:s.heap.IsList l items) (hx:items[i]? = some x) (hne:e ≠ it)
  (hQ:∀ h',Zkp h' e it ((i:Int) + 1) old a true->h'.IsListIter it l (i + 1)->
   h'.get? s.heap.objs.size = some { cls:=.type "tuple",data:=.seq #[.int i s.toks,x] }->h'.objs.size = s.heap.objs.size + 1->
   (∀ b o,b ≠ e->b ≠ it->s.heap.get? b = some o->h'.get? b = some o)->Q (some (.ref s.heap.objs.size)) { s with heap:=h',toks:=s.toks + 1 }):
  wpAny (model prog w) A (pyNext (.ref e)) Q E s:=by
 have hT:s.TypeIs (.ref e) "enumerate" := ⟨_,he,rfl⟩
 unfold pyNext;refine Jaf (wpAny_attempt (Jdl (name:=Str.ofString "__next__") hT Jdw
  (Jem Jdw hT F.entry_enumerate_next ?_ (F.args_enumerate_next_1 _))))
 obtain ⟨hp,g,d,tk,os⟩:=s;show wpAny _ _ (field (.ref e) 2 >>= _) _ _ _;refine Jaf (Jc1 he rfl (x:=.ref it) rfl ?_);refine Jaf (wpAny_nextOf_list_item hit hl hx λh₁ hit₁ hs₁=>?_)
 replace hs₁:Heap.SameBut it hp h₁:=hs₁
 have he₁:Zkp h₁ e it i old a f:=(hs₁.2 e hne).trans he;show wpAny _ _ (field (.ref e) 3 >>= _) _ _ ⟨h₁,g,d,tk,os⟩;refine Jaf (Jc1 he₁ rfl (x:=rawInt i) rfl ?_);show wpAny _ _ (field (.ref e) 4 >>= _) _ _ ⟨h₁,g,d,tk,os⟩;refine Jaf (Jc1 he₁ rfl (x:=.none) rfl ?_);show wpAny _ _ (mkInt i >>= _) _ _ ⟨h₁,g,d,tk,os⟩;refine Jaf (wpAny_mkInt ?_);show wpAny _ _ (setField (.ref e) 3 (rawInt ((i:Int) + 1)) >>= _) _ _ ⟨h₁,g,d,tk + 1,os⟩;refine Jaf (Je7 he₁ (by simp) λh₂ he₂ hs₂=>?_)
 replace hs₂:Heap.SameBut e h₁ h₂:=hs₂
 replace he₂:Zkp h₂ e it ((i:Int) + 1) old a f:=he₂
 show wpAny _ _ (setField (.ref e) 4 .none >>= _) _ _ ⟨h₂,g,d,tk + 1,os⟩;refine Jaf (Je7 he₂ (by simp) λh₃ he₃ hs₃=>?_)
 replace hs₃:Heap.SameBut e h₂ h₃:=hs₃
 replace he₃:Zkp h₃ e it ((i:Int) + 1) old a f:=he₃
 show wpAny _ _ (newTuple [.int i tk,x] >>= _) _ _ ⟨h₃,g,d,tk + 1,os⟩;refine Jaf (wpAny_newTuple ?_);have he₄:Zkp (h₃.push { cls:=.type "tuple",data:=.seq #[.int i tk,x] }) e it ((i:Int) + 1) old a f:=Jai _ he₃;generalize hh₄:h₃.push { cls:=.type "tuple",data:=.seq #[.int i tk,x] } = h₄ at he₄;have hsz:h₃.objs.size = hp.objs.size:=by rw [hs₃.1,hs₂.1,hs₁.1]
 have hel:e < hp.objs.size:=Jak he;have ht₄:h₄.get? hp.objs.size = some { cls:=.type "tuple",data:=.seq #[.int i tk,x] }:=by rw [<- hh₄,<- hsz]; exact Ja5 _ rfl
 have hz₄:h₄.objs.size = hp.objs.size + 1:=by rw [<- hh₄,Jcz,hsz]
 have hk₄:∀ b o,b ≠ e->b ≠ it->hp.get? b = some o->h₄.get? b = some o:=λb o hbe hbi hb=>by
  rw [<- hh₄]; exact Jai _ (hs₃.extBut b o hbe (hs₂.extBut b o hbe (hs₁.extBut b o hbi hb)))
 have hit₄:h₄.IsListIter it l (i + 1):=by
  rw [<- hh₄]; obtain ⟨o,ho,r⟩:=(hit₁.extBut hs₂.extBut (Jcg hne)).extBut hs₃.extBut (Jcg hne); exact ⟨o,Jai _ ho,r⟩
 have ha₄:h₄.get? a = some oa:=hk₄ a oa hae hai ha;show wpAny _ _ (Builtin.SmallTypes.ownedTupleIsFree (.ref e) >>= _) _ _ ⟨h₄,g,d,tk + 1,os⟩;rw [hsz];clear hh₄ he₃ hs₃ he₂ hs₂ he₁ hs₁ hit₁ hsz h₃ h₂ h₁;refine Jaf ?_;unfold Builtin.SmallTypes.ownedTupleIsFree;refine Jaf (Jc1 he₄ rfl (x:=rawInt a) rfl ?_);show wpAny _ _ (loadIfAlive ((a:Int).toNat) >>= _) _ _ _;rw [Jau];refine Jaf (PySem.W.kdx_alive ha₄ ?_);simp only [Option.isNone_some,Jcn,Jdu];refine Jaf (Jc1 he₄ rfl (x:=.bool f) rfl ?_);cases f with
 | true=>
  rw [if_neg (show ¬ ((Value.bool true != Value.bool true) = true) from Jax)];refine Jan ?_;simp only [Jcn,Jdu];exact Jan ⟨_,rfl,Jan (hQ h₄ he₄ hit₄ ht₄ hz₄ hk₄)⟩
 | false=>
  rw [if_pos (show (Value.bool false != Value.bool true) = true from rfl)];refine Jaf (Je7 he₄ (by simp) λh₅ he₅ hs₅=>?_)
  replace hs₅:Heap.SameBut e h₄ h₅:=hs₅
  replace he₅:Zkp h₅ e it ((i:Int) + 1) old a true:=he₅
  refine Jan ?_;simp only [Jcn,Jdu];exact Jan ⟨_,rfl,Jan (hQ h₅ he₅ (hit₄.extBut hs₅.extBut (Jcg hne)) (hs₅.extBut _ _ (Jby hel) ht₄) (by rw [hs₅.1]; exact hz₄) λb o hbe hbi hb=>hs₅.extBut b o hbe (hk₄ b o hbe hbi hb))⟩
theorem Zlw {e it l a:Addr} {f:Bool} {i:Nat} {items:Array Value} {old:Value} {Q:Option Value->Shared->Prop} (hh:A.handled = none)
  (he:Zkp s.heap e it i old a f) (hit:s.heap.IsListIter it l i) (hl:s.heap.IsList l items) (hx:items[i]? = none)
  (hQ:∀ h',Heap.ExtBut it s.heap h'->Q none { s with heap:=h' }):wpAny (model prog w) A (pyNext (.ref e)) Q E s:=by
 have hT:s.TypeIs (.ref e) "enumerate" := ⟨_,he,rfl⟩
 unfold pyNext;refine Jaf (wpAny_attempt (Jdl (name:=Str.ofString "__next__") hT Jdw
  (Jem Jdw hT F.entry_enumerate_next ?_ (F.args_enumerate_next_1 _))))
 show wpAny _ _ (field (.ref e) 2 >>= _) _ _ _;refine Jaf (Jc1 he rfl (x:=.ref it) rfl ?_);refine Jaf (wpAny_nextOf_list_end hh hit hl hx λh' x he' hx'=>?_);obtain ⟨o,ho,hc⟩:=hx';refine Jaf (wpAny_isInstance (T:="StopIteration") (b:=true) ⟨o,ho,hc⟩ isSubtype_stop ?_);exact Jan (hQ _ he')
def EnSt (h:Heap) (e it S:Addr) (i:Nat):Prop:=
 (i = 0/\∃ old,IsEnum h e it 0 old)\/∃ old a f oa,Zkp h e it i old a f/\h.get? a = some oa/\a ≠ e/\a ≠ it/\a ≠ S
theorem en_item {e it l S:Addr} {i:Nat} {items:Array Value} {x:Value} {Q:Option Value->Shared->Prop} (hst:EnSt s.heap e it S i) (hS:S < s.heap.objs.size) (hit:s.heap.IsListIter it l i) (hl:s.heap.IsList l items) (hx:items[i]? = some x) (hne:e ≠ it)
  (hQ:∀ h',EnSt h' e it S (i + 1)->h'.IsListIter it l (i + 1)->h'.get? s.heap.objs.size = some { cls:=.type "tuple",data:=.seq #[.int i s.toks,x] }->h'.objs.size = s.heap.objs.size + 1->
   (∀ b o,b ≠ e->b ≠ it->s.heap.get? b = some o->h'.get? b = some o)->Q (some (.ref s.heap.objs.size)) { s with heap:=h',toks:=s.toks + 1 }):
  wpAny (model prog w) A (pyNext (.ref e)) Q E s:=by
 rcases hst with ⟨rfl,old,he⟩ | ⟨old,a,f,oa,he,ha,h1,h2,h3⟩
 .exact wpAny_pyNext_enum_item he hit hl hx hne λh' ho hi' ht hz hk=>hQ h' (.inr ⟨x,_,false,_,ho,ht,Jby (Jak he),Jby (by obtain ⟨_,z,_⟩:=hit; exact Jak z),Jby hS⟩) hi' ht hz hk
 .refine Zkg he ha h1 h2 hit hl hx hne λh' ho hi' ht hz hk=>hQ h' (.inr ⟨old,a,true,oa,?_,hk a oa h1 h2 ha,h1,h2,h3⟩) hi' ht hz hk;have e1:((i + 1:Nat):Int) = (i:Int) + 1:=by omega
  rw [e1];exact ho
theorem en_done {e it l S:Addr} {i:Nat} {items:Array Value} {Q:Option Value->Shared->Prop} (hh:A.handled = none) (hst:EnSt s.heap e it S i) (hit:s.heap.IsListIter it l i) (hl:s.heap.IsList l items) (hx:items[i]? = none)
  (hQ:∀ h',Heap.ExtBut it s.heap h'->Q none { s with heap:=h' }):wpAny (model prog w) A (pyNext (.ref e)) Q E s:=by
 rcases hst with ⟨rfl,old,he⟩ | ⟨old,a,f,oa,he,ha,h1,h2,h3⟩
 .exact wpAny_pyNext_enum_end hh he hit hl hx hQ
 .exact Zlw hh he hit hl hx hQ
structure EnG (items:Array Value) (lo:Addr) (h:Heap) (as:List Addr):Prop where
 rise:as.Pairwise (· < ·)
 above:∀ a ∈ as,lo < a
 pairs:∀ (j:Nat) (a:Addr),as[j]? = some a->∃ t x,items[j]? = some x/\h.get? a = some { cls:=.type "tuple",data:=.seq #[.int j t,x] }
end
section
variable {prog:Program} {w:World} {A:Around} {s:Shared} {R:Result->Shared->Prop} {items:Array Value}
theorem en_loop {S e it l:Addr} (hh:A.handled = none) (hei:e ≠ it) (he:e < S) (hi:it < S) (hle:l ≠ e) (hli:l ≠ it) (hlS:l ≠ S) (hn:items.size<=sizeLine) (res:Value) {h₁:Heap}
  (hR:∀ h' tk acc c as,(∀ b o,b ≠ S->b ≠ e->b ≠ it->h₁.get? b = some o->h'.get? b = some o)->h'.get? S = some { cls:=.type "list",dict:=none,data:=.seq acc c,slots:=#[] }->as.length = items.size->EnG items S h' as->
   acc.toList = as.map Value.ref->R (.ok (.ret res)) { s with heap:=h',toks:=tk }):
  ∀ (k i:Nat) (h:Heap) (tk c:Nat) (acc:Array Value) (as:List Addr),items.size - i = k->i<=items.size->EnSt h e it S i->h.IsListIter it l i->h.IsList l items->(∀ b o,b ≠ S->b ≠ e->b ≠ it->h₁.get? b = some o->h.get? b = some o)->
   h.get? S = some { cls:=.type "list",dict:=none,data:=.seq acc c,slots:=#[] }->acc.toList = as.map Value.ref->as.length = i->EnG items S h as->
   codeAny (model prog w) A (.builtin "list.extend.loop" ⟨[.ref S,.ref e,res],[]⟩) R { s with heap:=h,toks:=tk }:=by
 have hSe:S ≠ e:=Jby he;have hSi:S ≠ it:=Jby hi;intro k
 induction k with
 | zero=>
  intro i h tk c acc as hk hi' hst hit hl hkeep hS hacc hal hG;refine Jeb PySem.F.entry_extend_loop ?_;rw [Jda Jd5 _];show wpAny _ A.in1 (pyNext (.ref e) >>= _) _ _ _;refine Jaf (en_done (s:={ s with heap:=h,toks:=tk }) (A:=A.in1) hh hst hit hl (Array.getElem?_eq_none (by omega)) λh' hx=>?_);refine Jan (hR h' tk acc c as (λb o h1 h2 h3 q=>hx b o h3 (hkeep b o h1 h2 h3 q)) (hx S _ hSi hS) (by omega) ⟨hG.rise,hG.above,λj a hj=>?_⟩ hacc);obtain ⟨t,x,e1,e2⟩:=hG.pairs j a hj;exact ⟨t,x,e1,hx a _ (Jby (Jej hi (hG.above a (Jae hj)))) e2⟩
 | succ k ih=>
  intro i h tk c acc as hk hi' hst hit hl hkeep hS hacc hal hG;have hlt:i < items.size:=by exact oz139 hk
  have hx:items[i]? = some items[i]:=Array.getElem?_eq_getElem hlt;have hSl:S < h.objs.size:=Jak hS;refine Jeb PySem.F.entry_extend_loop ?_;rw [Jda Jd5 _];show wpAny _ A.in1 (pyNext (.ref e) >>= _) _ _ _;refine Jaf (en_item (s:={ s with heap:=h,toks:=tk }) (A:=A.in1) hst hSl hit hl hx hei λh' hst' hit' ht hz hkp=>?_);have hS':=hkp S _ hSe hSi hS;show wpAny _ A.in1 (updateSeq S (·.push (.ref h.objs.size)) >>= _) _ _ _;have hsz:acc.size = i:=by
   have:=Jdz List.length hacc;simp at this;exact oz58 hal this
  refine Jaf (Jc3 (hz:=by omega) hS' rfl ?_);have hS₂:=Jc8 (Obj.mapSeq (·.push (Value.ref h.objs.size))) hS' rfl;have up:∀ b o,b ≠ S->h'.get? b = some o->(h'.update S (Obj.mapSeq (·.push (Value.ref h.objs.size)))).get? b = some o:=λb o hb q=>(Jcp _ _ (Jcg hb)).trans q;refine Jan ⟨Jec Jd5 _,ih (i + 1) _ _ _ _ (as ++ [h.objs.size]) (oz11 hk) hlt ?_ (hit'.at λo q=>up it o (Jcg hSi) q) ?_ (λb o h1 h2 h3 q=>up b o h1 (hkp b o h2 h3 (hkeep b o h1 h2 h3 q))) hS₂ ?_ (by rw [Jam,hal]; rfl) ⟨?_,λa ha=>?_,λj a hj=>?_⟩⟩
  .rcases hst' with ⟨z,_⟩ | ⟨old,a,f,oa,q1,q2,q3,q4,q5⟩
   .omega
   .exact .inr ⟨old,a,f,oa,up e _ (Jcg hSe) q1,up a _ q5 q2,q3,q4,q5⟩
  .exact hl.at λo q=>up l o hlS (hkp l o hle hli q)
  .rw [Jbe,<- hacc];exact Array.toList_push
  .refine List.pairwise_append.mpr ⟨hG.rise,List.pairwise_singleton ..,λa ha b hb=>?_⟩;rw [Ja1.mp hb];obtain ⟨j,hj⟩:=List.mem_iff_getElem?.mp ha;obtain ⟨_,_,_,q⟩:=hG.pairs j a hj;exact Jak q
  .rcases Jal.mp ha with ha | ha
   .exact hG.above a ha
   .rw [Ja1.mp ha]; exact hSl
  .by_cases h0:j < as.length
   .rw [Jbd h0] at hj;obtain ⟨t,x,e1,e2⟩:=hG.pairs j a hj;have ha:=hG.above a (Jae hj);exact ⟨t,x,e1,up a _ (Jby ha) (hkp a _ (Jby (Jej he ha)) (Jby (Jej hi ha)) e2)⟩
   .rw [Jbb (Zhf h0)] at hj;by_cases h1:j = as.length
    .subst h1;rw [Nat.sub_self] at hj;cases hj;exact ⟨tk,items[i],by rw [hal]; exact hx,up _ _ (Jby hSl) (by rw [hal]; exact ht)⟩
    .rw [Jaj (by simp; exact oz41 h0 h1)] at hj;cases hj
end
section
variable {prog:Program} {w:World} {A:Around} {s:Shared} {E:Value->Shared->Prop}
theorem Zm6 {R:Result->Shared->Prop} {e it l S:Addr} {items:Array Value} {res:Value} {c₀:Nat} (hh:A.handled = none) (he:IsEnum s.heap e it 0 .none) (hit:s.heap.IsListIter it l 0) (hl:s.heap.IsList l items) (hei:e ≠ it) (h1:e < S) (h2:it < S) (hle:l ≠ e) (hli:l ≠ it) (hlS:l ≠ S) (hn:items.size<=sizeLine) (hS:s.heap.get? S = some { cls:=.type "list",data:=.seq #[] c₀ })
  (hR:∀ h' tk acc c as,(∀ b o,b ≠ S->b ≠ e->b ≠ it->s.heap.get? b = some o->h'.get? b = some o)->h'.get? S = some { cls:=.type "list",dict:=none,data:=.seq acc c,slots:=#[] }->as.length = items.size->EnG items S h' as->
   acc.toList = as.map Value.ref->R (.ok (.ret res)) { s with heap:=h',toks:=tk }):
  wpAny (model prog w) A.in1 (Builtin.List.listExtendWith (.ref S) (.ref e) res)
   (λfin s'=>match fin with | .done f=>R (.ok f) s' | .again c'=>c'.quiet = true/\codeAny (model prog w) A c' R s') (λe s'=>R (.error e) s') s:=by
 have hSI:S ≠ e:=Jby h1;have hT:s.TypeIs (.ref e) "enumerate" := ⟨_,he,rfl⟩
 unfold Builtin.List.listExtendWith;refine Jaf (wpAny_typeOf hT ?_);have h3:Builtin.List.listSameRef (.ref S) (.ref e) = false:=by simp [Builtin.List.listSameRef,hSI]
 have h4:(Value.type "enumerate" == Value.type "list") = false:=by decide
 have h5:(Value.type "enumerate" == Value.type "tuple") = false:=by decide
 simp only [h3,h4,h5,Bool.or_false,Jcn,Jdu];refine Jaf (Jfd he ?_);refine Jaf (Jca ?_);unfold Builtin.List.listLengthHint;refine Jaf (wpAny_specialOf hT Zm7 ?_);refine Jaf (wpAny_specialOf hT Zlv ?_);refine Jan ?_;refine Jaf (Jfm ?_);refine Jaf ?_;show wpAny _ A.in1 (updateSeq S (·.push .none) >>= λ_=>updateSeq S (·.pop)) _ _ _;refine Jaf (Jc3 hS rfl ?_);have hS₂:=Jc8 (Obj.mapSeq (·.push Value.none)) hS rfl;refine Jc3 (hz:=by seq_fits) hS₂ rfl ?_;have hS₃:=Jc8 (Obj.mapSeq (·.pop)) hS₂ rfl;have oth:∀ b o,b ≠ S->s.heap.get? b = some o->((s.heap.update S (Obj.mapSeq (·.push Value.none))).update S (Obj.mapSeq (·.pop))).get? b = some o:=
  λb o hb e=>(Jcp _ _ (Jcg hb)).trans ((Jcp _ _ (Jcg hb)).trans e)
 refine Jan ⟨Jec F.plain_extend_loop _,?_⟩;exact en_loop (s:=s) (h₁:=s.heap) hh hei h1 h2 hle hli hlS hn res hR items.size 0 _ s.toks _ #[] [] (Nat.sub_zero _) (Jb3 _) (.inl ⟨rfl,_,oth e _ (Jcg hSI) he⟩) (hit.at λo q=>oth it o (Ja6 h2) q) (hl.at λo q=>oth l o hlS q) (λb o hb _ _ q=>oth b o hb q) hS₃ rfl rfl
  ⟨List.Pairwise.nil,(λ_ ha=>nomatch ha),(λj a hj=>by simp at hj)⟩
theorem Zqv {Q:Value->Shared->Prop} {e it l:Addr} {items:Array Value} (hh:A.handled = none) (he:IsEnum s.heap e it 0 .none) (hit:s.heap.IsListIter it l 0) (hl:s.heap.IsList l items) (hei:e ≠ it) (hle:l ≠ e) (hli:l ≠ it) (hn:items.size<=sizeLine)
  (hQ:∀ h' t' acc c as,(∀ b o,b ≠ e->b ≠ it->s.heap.get? b = some o->h'.get? b = some o)->h'.get? s.heap.objs.size = some { cls:=.type "list",dict:=none,data:=.seq acc c,slots:=#[] }->as.length = items.size->EnG items s.heap.objs.size h' as->acc.toList = as.map Value.ref->
   Q (.ref s.heap.objs.size) { s with heap:=h',toks:=t' }):
  wpAny (model prog w) A (call (.type "list") [.ref e]) Q E s:=by
 obtain ⟨oi,hoi,_⟩:=id hit;obtain ⟨ol,hol,_⟩:=id hl;have l1:e < s.heap.objs.size:=Jak he;have l2:it < s.heap.objs.size:=Jak hoi;have l3:l < s.heap.objs.size:=Jak hol;refine callType_codes (Q₁:=λobj s₁=>obj = .ref s.heap.objs.size/\s₁ = { s with heap:=s.heap.push { cls:=.type "list",data:=.seq #[] } }) F.called_list (F.typeCall_list_1 _) F.entry_list_init
  (code_list_new _ ⟨rfl,rfl⟩) λobj s₁ h₁=>?_
 obtain ⟨rfl,rfl⟩:=h₁;have hS:(s.heap.push { cls:=.type "list",data:=.seq #[] }).get? s.heap.objs.size = some { cls:=.type "list",data:=.seq #[] }:=Ja5 _ rfl;refine ⟨⟨_,hS,rfl⟩,F.args_list_init_2 _ _,?_⟩;have old:∀ b o,s.heap.get? b = some o->(s.heap.push { cls:=.type "list",data:=.seq #[] }).get? b = some o:=λb o e=>Jai _ e;have lts:∀ b o,s.heap.get? b = some o->b ≠ s.heap.objs.size:=λb o q=>Ja6 (Jak q);generalize hS0:s.heap.objs.size = S at *;generalize s.heap.push { cls:=.type "list",data:=.seq #[] } = h1 at *;show wpAny _ _ (do let old <- Builtin.List.listItems (.ref S); Builtin.List.listUpdate (.ref S) (λ_=>#[]); letGo old.toList.reverse; Builtin.List.listExtendWith (.ref S) (.ref e) .none) _ _ _;refine Jaf ?_;unfold Builtin.List.listItems;refine Jaf (Jd4 (s:={ s with heap:=h1 }) hS rfl (Jan ?_));show wpAny _ _ (updateSeq S (λ_=>#[]) >>= λ_=>letGo (#[]:Array Value).toList.reverse >>= λ_=>Builtin.List.listExtendWith (.ref S) (.ref e) .none) _ _ _;refine Jaf (Jc3 hS rfl ?_);have hS₂:=Jc8 (Obj.mapSeq (λ_=>(#[]:Array Value))) hS rfl;have oth:∀ b o,b ≠ S->s.heap.get? b = some o->(h1.update S (Obj.mapSeq (λ_=>(#[]:Array Value)))).get? b = some o:=
  λb o hb e=>(Jcp _ _ (Jcg hb)).trans (old b o e)
 refine Jaf (Jev ?_);refine Zm6 (A:=A.in1) (items:=items) hh (oth _ _ (Ja6 l1) he) (hit.at λo x=>oth _ _ (Ja6 l2) x) (hl.at λo x=>oth _ _ (Ja6 l3) x) hei l1 l2 hle hli (Ja6 l3) hn hS₂ λh' tk acc c as hk hS' hal hG hacc=>?_;exact ⟨rfl,hQ h' tk acc c as (λb o n1 n2 q=>hk b o (lts b o q) n1 n2 (oth b o (lts b o q) q)) hS' hal hG hacc⟩
end
section
variable {X:Cx} {pins:List (Addr × Obj)} {σ:St}
theorem Zi5 {H:Hp} {s:Shared} {items:Array Value} {xs:List V} {lo:Addr} {as:List Addr} (I:Inv X pins σ H s) (rv:Vals xs items.toList) (G:EnG items lo s.heap as) (hf:∀ a ∈ as,FpOk X pins H a) (h0:∀ a ∈ as,∀ u,X.s₀.heap.get? a ≠ some u):
  ∀ n,n<=as.length->∃ H',Inv X pins σ H' s/\Same H H'/\(∀ (j:Nat) a x,j < n->as[j]? = some a->xs[j]? = some x->H' a = some (.tup [.int j,x]))/\∀ b,b ∉ as.take n->H' b = H b
 | 0,_=>⟨H,I,Same.refl _,λj a x h=>by omega,λb _=>rfl⟩
 | n + 1,hn=>by
  obtain ⟨H1,I1,s1,h1,f1⟩:=Zi5 I rv G hf h0 n (by omega);have ha:as[n]? = some (as[n]'(by omega)):=Jaa _;generalize as[n]'(by omega) = a at ha;have hm:a ∈ as:=Jae ha;obtain ⟨t,x,e1,e2⟩:=G.pairs n a ha;obtain ⟨v,hv,rx⟩:∃ v,xs[n]? = some v/\RelV v x:=by
   have e1':items.toList[n]? = some x:=by rw [Array.getElem?_toList]; exact e1
   have hl:=rv.length;have hlt:n < xs.length:=by rw [hl]; exact (Jah.mp e1').1
   obtain ⟨u,hu,ru⟩:=rv.get (Jaa hlt);rw [e1'] at hu;cases hu;exact ⟨_,Jaa hlt,ru⟩
  have nin:a ∉ as.take n:=λz=>by
   obtain ⟨j,hj,e⟩:=Jas.mp z;rw [Jbf] at hj;rw [List.getElem_take] at e;have hlt:n < as.length:=by omega
   have:=Jbn.mp G.rise j n (oz92 hj) hlt (oz89 hj);rw [Jaa hlt] at ha;cases ha;rw [e] at this;exact absurd this (Jbs _)
  obtain ⟨p1,p2,p3,p4,p5,p6⟩:=hf a hm;have hn1:H1 a = none:=by rw [f1 a nin]; exact p1
  refine ⟨upd H1 a (.tup [.int n,v]),I1.track hn1 (h0 a hm) p2 p5 p6 ⟨show 2<=sizeLine by decide,[.int n t,x],.cons ⟨t,rfl⟩ (.cons rx .nil),⟨_,e2,rfl,_,rfl⟩⟩,s1.upd p1,λj b y hj hb hy=>?_,λb hb=>?_⟩
  .by_cases hjn:j = n
   .subst hjn;rw [ha] at hb;cases hb;rw [hv] at hy;cases hy;exact Zab
   .have:=h1 j b y (Zmp hj hjn) hb hy;rw [Zal (λz=>by rw [z,hn1] at this; cases this)];exact this
  .rw [Jfe,ha] at hb;have h2:b ≠ a/\b ∉ as.take n:=by
    constructor
    .intro z; exact hb (by rw [z]; simp)
    .intro z; exact hb (Jal.mpr (.inl z))
   rw [Zal h2.1];exact f1 b h2.2
def tLE (K:PySem.W.Frag) (ta:TA):TE:=λσ H Q=>ta σ H λvs H1=>∃ a xs,vs = [.ref a]/\SqL K H1 a xs/\∀ (l:Addr) (ps:List Addr) (H':Hp),Same H1 H'->H1 l = none->(∀ q ∈ ps,q ≠ l)->H' l = some (.lst (ps.map V.ref))->ps.length = xs.length->
 (∀ (i:Nat) q x,ps[i]? = some q->xs[i]? = some x->H' q = some (.tup [.int i,x]))->Q (.ref l) H'
theorem pe_le {p p2 pos pos2:Pos} {a:Expr} {ta:TA} (hc:X.calm = true) (hg:Gl X "list") (hm:X.mg "list" = none) (hg2:Gl X "enumerate") (hm2:X.mg "enumerate" = none) (ha:PA X [a] ta) (h:Zb3 a = false:=by rfl):
  PE X (.Call (.Name "list" p) [.Call (.Name "enumerate" p2) [a] [] pos2] [] pos) (tLE X.K ta):=by
 intro pins s σ H Q I hh;refine Call_ (Zfg I hg hm boot_list (Jbq ?_ (by rfl) (by rfl)));show wpAny _ _ (spliced ((false,eval (.Call (.Name "enumerate" p2) [a] [] pos2) X.env) :: backTo pos (starEach [] X.env))) _ _ s;refine Je0 (Call_ (Zfg I hg2 hm2 boot_enumerate (Jbq (thn (ha pos2 pins s σ H _ I hh) λus s1 ⟨vs,H1,I1,r1,q1⟩=>?_) (by rw [Za8 h]) (by rfl))));obtain ⟨c,xs,e,hq1,q⟩:=q1;subst e;cases r1 with
 | cons r rr=>
  cases rr;cases r;obtain ⟨its,rv,p1,hz1⟩:=I1.list hq1;refine call_enumerate_list p1.isList λh' a1 a2 a3 a4=>?_;refine Jfb ?_;obtain ⟨oc,hoc,_⟩:=id p1.isList;have clt:c < s1.heap.objs.size:=Jak hoc;have hln:=rv.length;refine Zqv (items:=its.toArray) (I.ok.hd hc) a1 a2 (p1.isList.at λo x=>a4 _ _ x) (Nat.succ_ne_self _) (Ja6 (Jcl clt)) (Ja6 clt) (by rw [Jaq]; omega) λh'' t' acc cc as kp hn hal hG hacc=>?_;have old:∀ b o,s1.heap.get? b = some o->h''.get? b = some o:=λb o x=>kp b o (λz=>absurd (Jak x) (by rw [z]; exact Nat.not_lt.mpr (Jfg _))) (λz=>absurd (Jak x) (by rw [z]; exact Jbs _)) (a4 b o x);have I2:Inv X pins σ H1 { s1 with heap:=h'',toks:=t' }:=I1.kept old;have big:∀ {b:Addr},s1.heap.objs.size<=b->FpOk X pins H1 b/\∀ u,X.s₀.heap.get? b ≠ some u:=λ{b} hb=>⟨I1.fpOk hb (I1.hok.fresh hb),λu z=>absurd (Jak z) (Nat.not_lt.mpr (Jat I1.sz hb))⟩
  have ab:∀ b ∈ as,s1.heap.objs.size<=b:=λb hb=>by
   have h9:h'.objs.size < b:=hG.above b hb;omega
  obtain ⟨H2,I3,s2,ht,hf⟩:=Zi5 (items:=its.toArray) (xs:=xs) I2 rv hG (λb hb=>(big (ab b hb)).1) (λb hb=>(big (ab b hb)).2) as.length (Jag _);have hSb:s1.heap.objs.size<=h'.objs.size:=by omega
  have nS:h'.objs.size ∉ as:=λz=>absurd (hG.above _ z) (Jbs _);obtain ⟨⟨p1',p2',p3',p4',p5',p6'⟩,p7⟩:=big hSb;have n2:H2 h'.objs.size = none:=by rw [hf _ (by rw [List.take_length]; exact nS)]; exact p1'
  rw [Jaq] at hal;have I4:=I3.track (a:=h'.objs.size) (o:=.lst (as.map V.ref)) n2 p7 p2' p5' p6' ⟨by rw [Jab]; omega,acc.toList,cc,?_,hn⟩
  .refine ⟨.ref h'.objs.size,_,I4,rfl,q _ as _ (s2.upd p1') p1' (λb hb z=>nS (z ▸ hb)) Zab (by omega) λi b x hb hx=>?_⟩;rw [Zal (λz:b = h'.objs.size=>nS (z ▸ Jae hb))];exact ht i b x (Jah.mp hb).1 hb hx
  .rw [hacc];have:∀ l:List Addr,Vals (l.map V.ref) (l.map Value.ref):=λl=>by
    induction l with
    | nil=>exact .nil
    | cons b l ih=>exact .cons rfl ih
   exact this as
end
section
variable {X:Cx}
def gSl0 (to:TE) (th:TO):TG:=λv σ H Q=>to σ H λx H1=>th σ H1 λu H2=>∃ l b xs ys,∃ c:Int,x = .ref l/\v = .ref b/\u = some c/\H2 l = some (.lst xs)/\H2 b = some (.lst ys)/\l ≠ b/\0<=c/\c<=xs.length/\xs.length + ys.length<=sizeLine/\Q σ (upd H2 l (.lst (ys ++ xs.drop c.toNat)))
theorem Zp0 {o hi:Expr} {to:TE} {th:TO} {p2 pos:Pos} (ho:PE X o to) (hu:PO X (some hi) th):PG X (.Subscript o (.Slice none (some hi) none p2) pos) (gSl0 to th):=by
 intro pins s σ H v u Q I r h;show wpAny _ _ (assign (.Subscript o (.Slice none (some hi) none p2) pos) X.env u) _ _ s;have ha:assign (.Subscript o (.Slice none (some hi) none p2) pos) X.env u = (do
   let ov <- holding [u] (eval o X.env)
   let iv <- holding [u,ov] (eval (.Slice none (some hi) none p2) X.env)
   standAt pos
   holding [u,ov,iv] (setItem ov iv u)
   release [iv,u,ov] []):=rfl
 rw [ha];refine Jaf (Jca (thn (ho pins s σ H _ I h) λov s1 ⟨x,H1,I1,r1,q1⟩=>?_));refine Jaf (Jca (wpAny_Slice ?_));rw [evalPart_none];refine Jan (thn (hu pins s1 σ H1 _ I1 q1) λvu s3 ⟨uu,H3,I3,pu,q3⟩=>?_);refine Jan ?_;obtain ⟨l,b,xs,ys,c,rfl,rfl,rfl,hl,hb,hne,c0,c1,hz,q⟩:=q3;cases r1;cases r;obtain ⟨c',rfl⟩:=Int.eq_ofNat_of_zero_le c0;have I4:Inv X pins σ H3 { s3 with heap:=s3.heap.push { cls:=.type "slice",data:=.fields #[.none,vu,.none] } }:=I3.kept (t':=s3.toks) λb ob q=>Jai _ q;refine Jaf (Jc7 (Jaf (Jca ?_)));obtain ⟨z,its,n,rr,hln,e⟩:=I4.lstM hl;obtain ⟨z2,its2,n2,rr2,hln2,e2⟩:=I4.lstM hb;refine Zi1 (c:=c') e e2 hne (Heap.IsSliceOf.new ..) .none pu (by rw [Jaq]; omega) (by rw [Jaq,Jaq]; omega) ?_;refine wpAny_release ⟨σ,_,I4.lset (its':=its2 ++ its.drop c') (t':=s3.toks) hl e ?_ (Vals.append rr2 (rr.drop _)) ?_,q⟩
 .have:=Zpd its its2 0 c';simpa using this
 .rw [Jam,Jbm];exact oz113 hz
end
section
variable {K:PySem.W.Frag} {a b D:Addr} {xs ys:List V} {g:TG} {tt:TT} {te:TE} {k:Nat} {fr:List (Str × Nat)} {σ:St} {H1:Hp} {Q:VK}
theorem Zrp (Pv:Nat->List V->Hp->Prop) (hlen:ys.length<=xs.length) (h0:Pv 0 [] (upd H1 D (.lst []))) (hl:∀ i vs H,i<=ys.length->Pv i vs H->SqL K H a xs/\SqL K H b ys)
  (hs:∀ i x y p vs σ' H,i < ys.length->xs[i]? = some x->ys[i]? = some y->H p = none->Sh k (Zbp fr σ) σ'->Pv i vs H->Zf6 g tt te D ys.length k (Zbp fr σ) Pv i (.ref p) σ' (upd H p (.tup [x,y]))) (hd:∀ vs H,Pv ys.length vs H->Q (.ref D) H):
  Zcg g tt te (Itz K a b) D (Zgr k fr σ) H1 Q:=by
 refine ⟨Wv ys.length k (Zbp fr σ) Pv,⟨ys.length,by simp,Jb3 _,sh0,[],h0⟩,?_⟩;rintro i m σ' H2 ⟨rfl,hi,sh,vs,p⟩;obtain ⟨q1,q2⟩:=hl i vs H2 hi p;by_cases hlt:i < ys.length
 .refine .inr ⟨⟨xs,ys,xs[i]'(Zr4 hlen hlt),ys[i],q1,q2,Jaa _,Jaa _⟩,λx H3 y=>?_⟩;obtain ⟨u,v,pp,rfl,hp,rfl,e1,e2⟩:=y;exact hs i u v pp vs σ' _ hlt (e1 _ q1) (e2 _ q2) hp sh p
 .have e:i = ys.length:=by exact Zs3 hi hlt
  subst e;exact .inl ⟨⟨xs,ys,q1,q2,.inr (Jag _)⟩,hd vs H2 p⟩
end
theorem Zms {X:Cx} (K:PySem.W.Frag) (hK:X.K = K) (hu:X.A.units + 8 < cLine):OpR X (compareOp .NotEq) (rNeN K):=hK ▸ op_neN hu
end L2
namespace L2
open PySem PySem.Spec PyProof.Rows
def Bt (n:Nat) (z:Int):Prop:=z.natAbs < 2 ^ n
theorem Bt.le {n m:Nat} {z:Int} (h:Bt n z) (hm:n<=m):Bt m z:=Ja0 h (Jbh (by decide) hm)
theorem Bt.mul {n m:Nat} {x y:Int} (h:Bt n x) (h':Bt m y):Bt (n + m) (x * y):=by
 unfold Bt at *;rw [Jc9,Jfj];exact Nat.mul_lt_mul'' h h'
theorem Bt.add {n:Nat} {x y:Int} (h:Bt n x) (h':Bt n y):Bt (n + 1) (x + y):=by
 unfold Bt at *;rw [Jd9];exact oz31 h h'
theorem Bt.sub {n:Nat} {x y:Int} (h:Bt n x) (h':Bt n y):Bt (n + 1) (x - y):=by
 unfold Bt at *;rw [Jd9];exact oz37 h h'
theorem Bt.neg {n:Nat} {x:Int} (h:Bt n x):Bt n (-x):=by unfold Bt at *; rw [Int.natAbs_neg]; exact h
theorem Bt.abs_le {n:Nat} {x y:Int} (h:Bt n x) (hy:y.natAbs<=x.natAbs):Bt n y:=Jbo hy h
theorem Bt.quo {n:Nat} {x y:Int} (h:Bt n x) (hd:y ∣ x):Bt n (x / y):=h.abs_le (by
 rw [Int.natAbs_ediv,if_pos (.inr (.inr hd))];exact Nat.div_le_self _ _)
theorem Zg1 (n:Nat):Bt n 0:=Jbj n
theorem Zaz {n:Nat} {z:Int} (hn:7<=n) (h:z.natAbs < 128):Bt n z:=Ja0 h (Jbh (show 0 < 2 by decide) hn)
theorem Bt.bits {n:Nat} {z:Int} (h:Bt n z):Builtin.Int.intBits z<=n:=bits_le h
theorem Bt.ok {n m:Nat} {x y:Int} (h:Bt n x) (h':Bt m y) (hs:n + m<=134217728):IntMulOk x y:=mulOk_of_bits h.bits h'.bits hs
theorem Zci {X:Cx} (ht:X.prog.given.tree = none) (hd:X.A.depth + Builtin.pylongFrames < recursionLimit):OpR X (binaryOp .FloorDiv) (rI (λ_ j=>j ≠ 0) λi j=>.int (i.fdiv j)):=by
 intro pins s σ H x y v u Q I rx ry h;obtain ⟨i,j,rfl,rfl,hc,q⟩:=h;obtain ⟨t,rfl⟩:=rx;obtain ⟨t',rfl⟩:=ry;exact floordiv_int hc ⟨.int (i.fdiv j),H,I.tok _,⟨_,rfl⟩,q⟩ (.inr (I.long ht hd))
theorem Zbu {k:Nat} {A:Around} (hr:Room k A):A.depth + Builtin.pylongFrames < recursionLimit:=by
 have:=hr.dp;have e:Builtin.pylongFrames<=200:=by decide
 omega
theorem Zc9 {i j:Int} (h:0 < j):i.fdiv j = i / j:=Jb2 i (Zld h)
theorem Ztz {a b c d x y:Int} (h:a * d - b * c = 1\/a * d - b * c = -1):Int.gcd (a * x + b * y) (c * x + d * y) = Int.gcd x y:=by
 apply Nat.dvd_antisymm
 .have h1:((Int.gcd (a * x + b * y) (c * x + d * y):Nat):Int) ∣ a * x + b * y:=Jbv ..;have h2:((Int.gcd (a * x + b * y) (c * x + d * y):Nat):Int) ∣ c * x + d * y:=Jb0 ..;generalize Int.gcd (a * x + b * y) (c * x + d * y) = g at *;obtain ⟨u,hu⟩:=h1;obtain ⟨v,hv⟩:=h2;have dx:(g:Int) ∣ x:=by
   rcases h with h | h
   .exact ⟨d * u - b * v,by grind⟩
   .exact ⟨b * v - d * u,by grind⟩
  have dy:(g:Int) ∣ y:=by
   rcases h with h | h
   .exact ⟨a * v - c * u,by grind⟩
   .exact ⟨c * u - a * v,by grind⟩
  exact Int.ofNat_dvd.mp (Int.dvd_coe_gcd dx dy)
 .have h1:((Int.gcd x y:Nat):Int) ∣ x:=Jbv ..;have h2:((Int.gcd x y:Nat):Int) ∣ y:=Jb0 ..;generalize Int.gcd x y = g at *;obtain ⟨u,hu⟩:=h1;obtain ⟨v,hv⟩:=h2;exact Int.ofNat_dvd.mp (Int.dvd_coe_gcd ⟨a * u + b * v,by grind⟩ ⟨c * u + d * v,by grind⟩)
structure Steps (x0 y0 a b c d x y:Int):Prop where
 hx:a * x0 + b * y0 = x
 hy:c * x0 + d * y0 = y
 sg:∃ e:Int,(e = 1\/e = -1)/\a * d - b * c = e/\0<=e * a/\0<=-(e * b)/\0<=-(e * c)/\0<=e * d
 x64:18446744073709551616<=x
 yn:0<=y
 yx:y<=x
 ab:a.natAbs < 4611686018427387904/\b.natAbs < 4611686018427387904
 pr:(a = 1/\b = 0/\c = 0/\d = 1)\/(b ≠ 0/\x + y + 18446744073709551616<=x0 + y0)
theorem Zlg {u x m:Int} (hu:0<=u) (hx:18446744073709551616<=x) (h:u * x<=m) (hm:m < 85070591730234615865843651857942052864):u < 4611686018427387904:=by
 apply Ja3;intro z;have h1:(4611686018427387904:Int) * 18446744073709551616<=u * x:=Int.mul_le_mul (by omega) hx (by omega) hu;omega
theorem Steps.cd {x0 y0 a b c d x y:Int} (h:Steps x0 y0 a b c d x y) (h0:x0 < 85070591730234615865843651857942052864) (h1:y0<=x0):c.natAbs < 4611686018427387904/\d.natAbs < 4611686018427387904:=by
 obtain ⟨e,he,det,sa,sb,sc,sd⟩:=h.sg;have ee:e * e = 1:=by rcases he with rfl | rfl <;> rfl
 have ex:(e * d) * x + (-(e * b)) * y = x0:=by
  rw [<- h.hx,<- h.hy];have:(e * d) * (a * x0 + b * y0) + (-(e * b)) * (c * x0 + d * y0) = e * (a * d - b * c) * x0:=by grind
  rw [this,det,ee,Int.one_mul]
 have ey:(-(e * c)) * x + (e * a) * y = y0:=by
  rw [<- h.hx,<- h.hy];have:(-(e * c)) * (a * x0 + b * y0) + (e * a) * (c * x0 + d * y0) = e * (a * d - b * c) * y0:=by grind
  rw [this,det,ee,Int.one_mul]
 have p1:0<=(-(e * b)) * y:=Jdo sb h.yn;have p2:0<=(e * a) * y:=Jdo sa h.yn;have q1:=Zlg sd h.x64 (show (e * d) * x<=x0 by omega) h0;have q2:=Zlg sc h.x64 (show (-(e * c)) * x<=x0 by omega) h0;constructor
 .rcases he with rfl | rfl <;> omega
 .rcases he with rfl | rfl <;> omega
theorem Steps.next {x0 y0 a b c d x y:Int} (h:Steps x0 y0 a b c d x y) (h0:x0 < 85070591730234615865843651857942052864) (h1:y0<=x0) (hy:18446744073709551616<=y):Steps x0 y0 c d (a - x / y * c) (b - x / y * d) y (x - x / y * y):=by
 have cd:=h.cd h0 h1;obtain ⟨e,he,det,sa,sb,sc,sd⟩:=h.sg;have m0:0<=x / y:=Jew (by have:=h.x64; exact Zmr this) (Zmr hy);have m1:1<=x / y:=by
  have:=h.yx;exact (Int.le_ediv_iff_mul_le (by omega)).mpr (by omega)
 have hr:x - x / y * y = x % y:=by
  have:=Jek x y;rw [Je8 y] at this;omega
 have r0:=Jbr x (show y ≠ 0 by omega);have r1:=Jbg x (show 0 < y by omega);have e1:=h.hx;have e2:=h.hy;generalize hq:x / y = q at *;have qy:y<=q * y:=by
  have:=Jdj m1 (show 0<=y by exact Zmr hy);exact oz142 this
 refine ⟨h.hy,by rw [<- e1,<- e2]; grind,⟨-e,?_,by grind,by grind,by grind,?_,?_⟩,hy,by omega,oz132 r1 hr,cd,.inr ⟨?_,?_⟩⟩
 .rcases he with rfl | rfl <;> simp
 .have p:=Jdo m0 sc;have:-(-e * (a - q * c)) = e * a + q * -(e * c):=by grind
  omega
 .have p:=Jdo m0 sd;have:-e * (b - q * d) = -(e * b) + q * (e * d):=by grind
  omega
 .rcases h.pr with ⟨_,_,_,rfl⟩ | ⟨hb,_⟩
  .decide
  .intro z;subst z;have hbc:-(b * c) = e:=by rw [<- det]; grind
   -- b * c = -e,d = 0: then y = c * x0 and x = a * x0 + b * y0
   have hc1:c.natAbs = 1:=by
    have:b.natAbs * c.natAbs = 1:=by rw [<- Jc9]; rcases he with rfl | rfl <;> omega
    exact Nat.eq_one_of_mul_eq_one_left this
   have e2':c * x0 = y:=by rw [<- e2]; grind
   have hc:c = 1:=by
    rcases (show c = 1\/c = -1 by exact oz33 hc1) with z | z
    .exact z
    .subst z;have:=h.x64;have:=h.yx;omega
   subst hc;rcases h.pr with ⟨_,hb0,_⟩ | ⟨_,hs⟩
   .exact hb hb0
   .have:=h.x64;have:=h.yx;have:=h.yn;omega
 .rcases h.pr with ⟨rfl,rfl,rfl,rfl⟩ | ⟨_,hs⟩
  .have g1:x0 = x:=by rw [<- e1]; grind
   have g2:y0 = y:=by rw [<- e2]; grind
   omega
  .exact oz119 r0 r1 qy hs
end L2
namespace L2
open PySem PySem.Spec PyProof.Rows PySem.W
def Zly (X:Cx) (N:List Str) (qual:Str) (scope:Scope) (cl:List (Str × Addr)) (f:Addr) (cd:Value) (A:Around) (s:Shared) (H:Hp):Cx where
 prog:=X.prog
 w:=X.w
 K:=X.K
 mg:=X.mg
 base:=X.base
 A:=A.deeper (envX qual scope s.heap.objs.size f cd cl)
 N:=N
 s₀:=s
 H₀:=H
 env:=envX qual scope s.heap.objs.size f cd cl
 outer:=X.stack
 stack:=envX qual scope s.heap.objs.size f cd cl :: X.stack
 ex:=[]
 fn:=λ_=>false
 calm:=true
 pn:=[]
 xe:=λ_ _=>False
structure LamScope (X:Cx) (sc:Scope) (x:Str) (fr:List (Str × Nat)):Prop where
 kind:sc.kind = .function
 co:sc.isCoroutine = false
 gen:sc.isGenerator = false
 nocell:∀ y ∈ sc.names,y.2 ≠ .cell
 par:sc.names.lookup x = some .local
 free:∀ y ∈ sc.names,y.2 = .free->X.env.scope.names.lookup y.1 = some .cell\/X.env.scope.names.lookup y.1 = some .free
 cap:∀ y ∈ fr,sc.names.lookup y.1 = some .free/\X.N[y.2]? = some y.1
abbrev Zr6 (x:Str) (fr:List (Str × Nat)):List Str:=x :: fr.map (·.1)
abbrev Zu0 (v:V) (fr:List (Str × Nat)) (σ:St):St:=some v :: fr.map λy=>(σ[y.2]?).getD none
section
variable {X:Cx} {pins:List (Addr × Obj)} {σ:St} {H:Hp} {s:Shared} {A:Around} {sc:Scope} {x:Str} {fr:List (Str × Nat)} {cl:List (Str × Addr)} {f:Addr} {cd:Value} {qual:Str}
theorem inv_lam {h':Heap} {v:V} {u:Value} (I:Inv X pins σ H s) (B:LamScope X sc x fr) (hfr:A.frames = some X.stack) (hd:A.handled = none)
  (hcl:∀ x c,cl.lookup x = some c->X.env.cells.lookup x = some c) (hcl2:∀ y ∈ sc.names,y.2 = .free->∃ c,cl.lookup y.1 = some c) (rv:RelV v u)
  (hn:h'.Ns s.heap.objs.size (λy=>[(x,u)].reverse.lookup y)) (hk:∀ b o,s.heap.get? b = some o->h'.get? b = some o):
  Inv (Zly X (Zr6 x fr) qual sc cl f cd A s H) [] (Zu0 v fr σ) H { s with heap:=h',toks:=s.toks + 1 }:=by
 have bsz:X.base.objs.size<=s.heap.objs.size:=Jat I.ok.bsz I.sz;have noA:∀ b:Addr,b ∉ (Zly X (Zr6 x fr) qual sc cl f cd A s H).ex:=λb z=>absurd (show b ∈ ([]:List Addr) from z) (by simp);refine ⟨⟨I.ok.mod,B.kind,rfl,rfl,Jag _,λy z c h1 h2=>I.ok.inj y z c (hcl y c h1) (hcl z c h2),λy hy=>?_,λy c hf _=>absurd (show false = true from hf) Jax,λ_=>hd,Around.frames_deeper hfr,.inr ⟨rfl,rfl⟩,λb z=>absurd z (noA b),I.bs,bsz,λb _ _=>noA b,λb z=>absurd z (noA b),I.stack,I.stkFree,⟨_,_,rfl,B.gen,B.co,rfl,rfl⟩⟩,
  rfl,I.bare,Un.kept hk,⟨_,hn,λi y w h1 h2 h3=>?_⟩,λy c e=>?_,I.hok.fresh (Jag _),λy c e=>I.freeC y c (hcl y c e),λp hp=>absurd (show p ∈ ([]:List (Addr × Obj)) from hp) (by simp),I.hok.kept hk,by show (Zu0 v fr σ).length = (Zr6 x fr).length; simp⟩
 .have hy:sc.names.lookup y = some .cell\/sc.names.lookup y = some .free:=hy;rcases hy with z | z
  .exact absurd rfl (B.nocell _ (Jbl z))
  .exact hcl2 _ (Jbl z) rfl
 .have h1:(Zr6 x fr)[i]? = some y:=h1;cases i with
  | zero=>
   have e1:x = y:=Jbp h1;have e2:some v = some w:=Jbp h2;cases e2;subst e1;exact ⟨u,rv,.inl ⟨B.par,by simp⟩⟩
  | succ i=>
   rw [List.getElem?_cons_succ,Jad] at h1 h2;cases e:fr[i]? with
   | none=>rw [e] at h1; cases h1
   | some z=>
    rw [e] at h1 h2;have hy1:z.1 = y:=Jbp h1;have hy2:(σ[z.2]?).getD none = some w:=Jbp h2;obtain ⟨c1,c2⟩:=B.cap z (Jae e);rw [hy1] at c1 c2;have hs:σ[z.2]? = some (some w):=by
     cases e2:σ[z.2]? with
     | none=>rw [e2] at hy2; cases hy2
     | some o=>rw [e2] at hy2; cases o with
      | none=>cases hy2
      | some w=>cases hy2; rfl
    obtain ⟨m,hm,hl⟩:=I.loc;have hfree:=B.free _ (Jbl c1) rfl;obtain ⟨u',r,l⟩:=hl z.2 y w c2 hs (hfree.elim (λz=>.inr (.inl z)) λz=>.inr (.inr z));refine ⟨u',r,?_⟩;obtain ⟨k,c,e3,ce⟩:(X.env.kindOf y = some .cell\/X.env.kindOf y = some .free)/\∃ c,X.env.cells.lookup y = some c/\s.heap.IsCell c (some u'):=by
     rcases l with ⟨k,_⟩ | q
     .have k:X.env.scope.names.lookup y = some .local:=k;rcases hfree with z | z <;> (rw [z] at k; cases k)
     .exact q
    obtain ⟨d,hd'⟩:=hcl2 _ (Jbl c1) rfl;have hd2:=hcl y d hd';rw [e3] at hd2;cases hd2;exact .inr ⟨.inr c1,c,hd',ce.keeps hk⟩
 .obtain ⟨w,q⟩:=I.cell y c (hcl y c e);exact ⟨w,q.keeps hk⟩
theorem run_lam {c':Addr} {params:Arguments} {body:Expr} {name:Str} {pm ctv:Value} {v:V} {u:Value} {te:TE} {Q:VK} (I:Inv X pins σ H s) (B:LamScope X sc x fr) (hfr:A.frames = some X.stack) (hd:A.handled = none) (hroom:A.depth < recursionLimit)
  (hcl:∀ x c,cl.lookup x = some c->X.env.cells.lookup x = some c) (hcl2:∀ y ∈ sc.names,y.2 = .free->∃ c,cl.lookup y.1 = some c) (rv:RelV v u)
  (hf:s.heap.get? f = some (kla_obj name qual params body sc cl pm c' ctv)) (hcd:s.heap.CodeRec (.ref c') qual)
  (hb:bindArgs (kla_fn name qual params body sc cl pm (.ref c') ctv) ⟨[u],[]⟩ = pure [(x,u)])
  (he:PE (Zly X (Zr6 x fr) qual sc cl f (.ref c') A.in1 s H) body te) (q:te (Zu0 v fr σ) H Q):
  wpAny (model X.prog X.w) A.in1 (call (.ref f) [u]) (EP X pins σ Q) (λ_ _=>False) s:=by
 refine wpAny_call (kla_callFunE (A:=A.in1) hroom hf rfl B.co B.gen rfl hcd ?_);rw [hb];refine Jan (wpAny_newFunctionEnv B.nocell (λy hy=>?_) (λh₁ hns hsb=>⟨I.nolimit.fresh _ hsb,?_⟩) B.kind)
 .rw [Ja1.mp hy];exact B.par
 .show codeAny _ _ (.expr body (envX qual sc s.heap.objs.size f (.ref c') cl)) _ _;have hk₁:∀ b o,s.heap.get? b = some o->h₁.get? b = some o:=λb o e=>hsb.extBut b o (Ja6 (Jak e)) (Jai _ e);have I1:Inv (Zly X (Zr6 x fr) qual sc cl f (.ref c') A.in1 s H) [] (Zu0 v fr σ) H { s with heap:=h₁,toks:=s.toks + 1 }:=inv_lam (A:=A.in1) I B hfr hd hcl hcl2 rv hns hk₁;refine kla_codeExpr (Jbz (he [] _ _ _ _ I1 q) (λy s' h=>?_) λ_ _ h=>h.elim);obtain ⟨v',H',J,r',q'⟩:=h;exact I.after ⟨v',H',J.os,J.bare,J.base,J.hok,r',q'⟩
end
structure LamAt (X:Cx) (pins:List (Addr × Obj)) (sc:Scope) (params:Arguments) (body:Expr) (qual:Str) (P:Addr) (H:Hp) (s:Shared) (f c':Addr) (cl:List (Str × Addr)) (ctv pm:Value):Prop where
 fn:s.heap.get? f = some (kla_obj "<lambda>" qual params body sc cl pm c' ctv)
 fp:FpOk X pins H f
 cod:∃ oc vs t,H c' = some (.frz oc (.own P))/\oc.data = .fields vs/\vs[1]? = some (.str qual t)
 hcl:∀ x c,cl.lookup x = some c->X.env.cells.lookup x = some c
 hcl2:∀ y ∈ sc.names,y.2 = .free->∃ c,cl.lookup y.1 = some c
section
variable {X:Cx} {pins:List (Addr × Obj)} {σ:St} {H:Hp} {s:Shared} {sc:Scope} {x:Str} {fr:List (Str × Nat)} {P c:Addr} {params:Arguments} {body:Expr} {pos:Pos}
theorem LamAt.code {H:Hp} {s:Shared} {f c':Addr} {cl:List (Str × Addr)} {ctv pm:Value} {qual:Str} (L:LamAt X pins sc params body qual P H s f c' cl ctv pm) (I:Inv X pins σ H s):s.heap.CodeRec (.ref c') qual:=by
 obtain ⟨oc,vs,t,e,d,v⟩:=L.cod;obtain ⟨e1,_⟩:=I.hok c' _ e;exact ⟨c',oc,vs,t,rfl,e1,d,v⟩
theorem mk_lam {Q:Value->Shared->Prop} (I:Inv X pins σ H s) (B:LamScope X sc x fr) (hcode:X.env.code = .ref c) (C:CodeHd X.base c P) (hP:H P = some (.tab (pos.line:Int) (pos.col:Int) (X.env.qual ++ "<lambda>")))
  (hdef:defaultsOf params X.env = ([],[]))
  (h:∀ s' H' f c' cl ctv pm,Inv X pins σ H' s'->Same H H'->LamAt X pins sc params body (X.env.qual ++ "<lambda>") P H' s' f c' cl ctv pm->Q (.ref f) s'):
  wpAny (model X.prog X.w) X.A (eval (.Lambda params body sc pos) X.env) Q X.xe s:=by
 obtain ⟨cl,hcl,q1,q2⟩:=Zkj (scope:=sc) (env:=X.env) λy hy hf=>I.ok.has y.1 ((B.free y hy hf).elim .inl .inr);have hg:s.heap.Ns mainGlobals X.mg:=I.mod.glob.keeps I.bk;have CH:CodeHd s.heap c P:=by
  obtain ⟨o,vs,file,tf,flags,tg,inF,text,tt,e1,r⟩:=C;exact ⟨o,vs,file,tf,flags,tg,inF,text,tt,I.bk _ _ e1,r⟩
 obtain ⟨bm,ob,b1,b2,b3,b4,b5,b6⟩:=I.mod.bmain;have b3':=I.bs _ _ b3;have hgP:mainGlobals ≠ P:=λq=>by
  obtain ⟨o,es,ep,e,hd,_⟩:=I.mod.glob;have:=(I.bs _ _ e).2;rw [q,hP] at this;cases this
 have hbP:bm ≠ P:=λq=>by
  have:=b3'.2;rw [q,hP] at this;cases this
 have hbG:bm ≠ mainGlobals:=λq=>by
  obtain ⟨o,es,ep,e,hd,_⟩:=I.mod.glob;rw [q,e] at b3; cases b3; rw [hd] at b6; cases b6
 have BA:s.heap.BuiltinsAt X.mg P:=⟨bm,ob,b1,b2,hbG,hbP,b3'.1,b4,b5,b6⟩
 have ok:=I.hok P _ hP;refine kla_eval hdef ?_;rcases ok with e0 | ⟨c',oc,vs,t,e0,ne,e2,d2,v2⟩
 .-- the first one
  refine kla_makeFunction (mg:=X.mg) hcl I.ok.glob hg hcode CH e0 (by exact True.intro) rfl hgP BA λc' ctv h' tk hx hge hlt hrec htb=>?_;obtain ⟨c2,oc,vs,t,ec,hoc,hd,hv⟩:=hrec;cases ec;have hcn:H c' = none:=I.hok.fresh hge;have hcP:c' ≠ P:=λz=>by rw [z,hP] at hcn; cases hcn
  have hxk:∀ b o,b ≠ P->s.heap.get? b = some o->(h'.push (kla_obj "<lambda>" (X.env.qual ++ "<lambda>") params body sc cl ((X.mg "__name__").getD .none) c' ctv)).get? b = some o:=λb o hb e=>Jai _ (hx b o hb e);have gP:(h'.push (kla_obj "<lambda>" (X.env.qual ++ "<lambda>") params body sc cl ((X.mg "__name__").getD .none) c' ctv)).get? P = some (tabObj (#[] ++ #[rawInt pos.line,rawInt pos.col,.ref c'])):=Jai _ htb;have gc:(h'.push (kla_obj "<lambda>" (X.env.qual ++ "<lambda>") params body sc cl ((X.mg "__name__").getD .none) c' ctv)).get? c' = some oc:=Jai _ hoc;have sm:Same H (upd H c' (.frz oc (.own P))):=λb u e=>by rw [Zal (Zaj e hcn)]; exact e
  have nP:∀ {b:Addr},H b = none->b ≠ P:=λe z=>by rw [z,hP] at e; cases e
  have U:Un X.fs [] H (upd H c' (.frz oc (.own P))) s.heap (h'.push (kla_obj "<lambda>" (X.env.qual ++ "<lambda>") params body sc cl ((X.mg "__name__").getD .none) c' ctv)):=by
   refine ⟨λb o e n _ _=>hxk b o (nP n) e,λb o e n _ _=>⟨o.slots,hxk b o (nP n) e⟩,λb o e n _=>?_,λb o e _=>?_,λb xs e=>sm _ _ e,λb o u e=>sm _ _ e,λb ps e=>⟨#[],by rw [sm _ _ e]; simp⟩⟩
   .rw [Zal (Ja6 (Ja0 (Jak e) hge))];exact n
   .by_cases z:b = P
    .exact ⟨_,by rw [z]; exact gP⟩
    .exact ⟨o,hxk b o z e⟩
  have O:HOk X.prog X.w (upd H c' (.frz oc (.own P))) (h'.push (kla_obj "<lambda>" (X.env.qual ++ "<lambda>") params body sc cl ((X.mg "__name__").getD .none) c' ctv)):=λb u e=>by
   by_cases hb:b = c'
   .subst hb;rw [Zab] at e;cases e;exact ⟨gc,⟨oc,gc⟩⟩
   .rw [Zal hb] at e;by_cases hbP':b = P
    .subst hbP';rw [hP] at e;cases e;exact .inr ⟨c',oc,vs,t,gP,hcP,Zab,hd,hv⟩
    .refine (I.hok b u e).stay (λa v ha q=>hxk a v ?_ q) (λa z=>sm _ _ z) (λa xs z=>sm _ _ z) λa o' u' z=>sm _ _ z;rcases ha with rfl | ha
     .exact hbP'
     .intro z;rw [z,hP] at ha;cases ha
  have I':Inv X pins σ (upd H c' (.frz oc (.own P))) { s with heap:=h'.push (kla_obj "<lambda>" (X.env.qual ++ "<lambda>") params body sc cl ((X.mg "__name__").getD .none) c' ctv),toks:=tk }:=I.un U O;have hsz:s.heap.objs.size<=h'.objs.size:=Jcd (Jbo hge hlt);refine h _ _ h'.objs.size c' cl ctv _ I' sm ⟨Ja5 _ rfl,I.fpOk hsz ?_,⟨oc,vs,t,Zab,hd,hv⟩,q1,q2⟩;rw [Zal (Jby hlt)];exact I.hok.fresh hsz
 .-- the code is there
  refine kla_makeFunctionHit (cv:=.ref c') (mg:=X.mg) hcl I.ok.glob hg hcode CH e0 (by simp [TriplesOk,rawInt]) (by simp [codeAmong,rawInt]) BA λctv h' tk hk hsz=>?_;have I':Inv X pins σ H { s with heap:=h'.push (kla_obj "<lambda>" (X.env.qual ++ "<lambda>") params body sc cl ((X.mg "__name__").getD .none) c' ctv),toks:=tk }:=I.kept λb o e=>Jai _ (hk b o e);exact h _ _ h'.objs.size c' cl ctv _ I' (Same.refl _) ⟨Ja5 _ rfl,I.fpOk hsz (I.hok.fresh hsz),⟨oc,vs,t,e2,d2,v2⟩,q1,q2⟩
end
theorem Same.sqL {K:PySem.W.Frag} {H H':Hp} {a:Addr} {xs:List V} (s:Same H H') (h:SqL K H a xs):SqL K H' a xs:=s.seq h
def IsMin (kf:Nat->Int) (n i:Nat):Prop:=i < n/\∀ j,j < n->kf i<=kf j/\(j < i->kf i < kf j)
section
variable {X:Cx} {pins:List (Addr × Obj)} {σ:St} {sc:Scope} {x:Str} {fr:List (Str × Nat)} {P:Addr} {params:Arguments} {body:Expr} {qual:Str} {f c' l It S:Addr} {cl:List (Str × Addr)} {ctv pm:Value} {xs:List V} {te:TE} {H0:Hp} {kf:Nat->Int}
abbrev KWd:List (Str × Value):=[("default",Value.none)]
theorem FpOk.same {pins:List (Addr × Obj)} {H H':Hp} {b:Addr} (h:FpOk X pins H b) (e:H' b = none):FpOk X pins H' b:=⟨e,h.2⟩
theorem Zq0 {H:Hp} {s:Shared} {i:Nat} {v:V} {u:Value} {b₁:Addr} {o₁:Obj} {b₂:Addr} {o₂:Obj} (hc:X.calm = true) (hroom:X.A.depth < recursionLimit) (B:LamScope X sc x fr) (hbd:∀ u pm c' ctv cl,bindArgs (kla_fn "<lambda>" qual params body sc cl pm (.ref c') ctv) ⟨[u],[]⟩ = pure [(x,u)])
  (he:∀ cl f c' s H,PE (Zly X (Zr6 x fr) qual sc cl f (.ref c') X.A.in1 s H) body te) (I:Inv X pins σ H s) (L:LamAt X pins sc params body qual P H s f c' cl ctv pm)
  (ht:te (Zu0 v fr σ) H λy H'=>y = .int (kf i)/\Same H H') (rv:RelV v u)
  (f1:FpOk X pins H b₁) (g1:s.heap.get? b₁ = some o₁) (d1:∀ v,o₁.data ≠ .cell v) (f2:FpOk X pins H b₂) (g2:s.heap.get? b₂ = some o₂) (d2:∀ v,o₂.data ≠ .cell v):
  wpAny (model X.prog X.w) X.A.in1 (call (.ref f) [u]) (λy s'=>∃ t H',y = .int (kf i) t/\Same H H'/\Inv X pins σ H' s'/\LamAt X pins sc params body qual P H' s' f c' cl ctv pm/\s'.heap.get? b₁ = some o₁/\H' b₁ = none/\s'.heap.get? b₂ = some o₂/\H' b₂ = none) (λ_ _=>False) s:=by
 have Ip:=I.pinned (fp:=[b₁,b₂,f]) (λb hb=>by
  rcases Jb8.mp hb with rfl | hb
  .exact f1
  .rcases Jb8.mp hb with rfl | hb
   .exact f2
   .rw [Ja1.mp hb]; exact L.fp) (λb hb=>by
  rcases Jb8.mp hb with rfl | hb
  .exact ⟨_,g1,d1⟩
  .rcases Jb8.mp hb with rfl | hb
   .exact ⟨_,g2,d2⟩
   .rw [Ja1.mp hb]; exact ⟨_,L.fn,λv z=>by cases z⟩)
 refine thn (run_lam Ip B I.ok.frames (I.ok.hd hc) hroom L.hcl L.hcl2 rv L.fn (L.code I) (hbd _ _ _ _ _) (he _ _ _ _ _) ht) λy s' h=>?_;obtain ⟨w,H',I',r,rfl,sm⟩:=h;obtain ⟨t,rfl⟩:=r;have pn:∀ b ∈ [b₁,b₂,f],∀ o,s.heap.get? b = some o->s'.heap.get? b = some o/\H' b = none:=λb hb o e=>by
  have:=I'.pin (b,o) (Ja2 _ (Ja2 _ (Zca hb e)));exact ⟨this.1,this.2.1⟩
 obtain ⟨oc,vs,tk,e,r⟩:=L.cod;obtain ⟨p1,p1'⟩:=pn b₁ (by simp) _ g1;obtain ⟨p2,p2'⟩:=pn b₂ (by simp) _ g2;obtain ⟨p3,p3'⟩:=pn f (by simp) _ L.fn;exact ⟨t,H',rfl,sm,I'.unpinned,⟨p3,L.fp.same p3',⟨oc,vs,tk,sm _ _ e,r⟩,L.hcl,L.hcl2⟩,p1,p1',p2,p2'⟩
theorem Ztl (hc:X.calm = true) (hroom:X.A.depth < recursionLimit) (B:LamScope X sc x fr) (hbd:∀ u pm c' ctv cl,bindArgs (kla_fn "<lambda>" qual params body sc cl pm (.ref c') ctv) ⟨[u],[]⟩ = pure [(x,u)])
  (he:∀ cl f c' s H,PE (Zly X (Zr6 x fr) qual sc cl f (.ref c') X.A.in1 s H) body te) (hlI:l ≠ It) (hSI:S ≠ It) (hfI:f ≠ It) (hfS:f ≠ S)
  (ht:∀ i v H,xs[i]? = some v->Same H0 H->te (Zu0 v fr σ) H λy H'=>y = .int (kf i)/\Same H H') (hl0:SqL X.K H0 l xs)
  {R:Result->Shared->Prop} (hR:∀ i v u s' H',IsMin kf xs.length i->xs[i]? = some v->RelV v u->Same H0 H'->Inv X pins σ H' s'->R (.ok (.ret u)) s'):
  ∀ (r j i:Nat) (s:Shared) (H:Hp) (vb:V) (ub:Value) (tb:Tok) (n:Nat),xs.length - (j + 1) = r->j + 1<=xs.length->Same H0 H->Inv X pins σ H s->LamAt X pins sc params body qual P H s f c' cl ctv pm->FpOk X pins H S->FpOk X pins H It->
   s.heap.get? S = some (seqObj "list" #[ub,.int (kf i) tb] n)->s.heap.IsListIter It l (j + 1)->xs[i]? = some vb->RelV vb ub->i<=j->(∀ j',j'<=j->kf i<=kf j'/\(j' < i->kf i < kf j'))->
   codeAny (model X.prog X.w) X.A (.builtin "min.loop" ⟨[.ref It,.ref f,.ref S],KWd⟩) R s:=by
 have hname:(toString "min" ++ toString ".loop" : String) = "min.loop" := by decide
 intro r
 induction r with
 | zero=>
  intro j i s H vb ub tb n hr hj sm I L fS fI gS hit hvb rvb hij hbest;have hin:j + 1 = xs.length:=by omega
  obtain ⟨its,rv,p,hz⟩:=I.list (sm.sqL hl0);have hlen:=rv.length;refine Jeb Jef ?_;rw [Jda Jcf _];show wpAny _ X.A.in1 (seqItems? (.ref S) >>= _) _ _ _;refine Jaf (Jd4 gS rfl ?_);show wpAny _ X.A.in1 (tryCatch (pyNext (.ref It)) _ >>= _) _ _ _;refine Jaf (Jdp (Jei (A:=X.A.in1) (I.ok.hd hc) hit p.isList (by simp; omega) λh' eb=>?_));have I1:Inv X pins σ H { s with heap:=h' }:=I.turned (t':=s.toks) (λb o hb e=>eb b o hb e) fI.1 fI.2.1 fI.2.2.2.1 fI.2.2.2.2.1 fI.2.2.2.2.2;have gS':h'.get? S = some (seqObj "list" #[ub,.int (kf i) tb] n):=eb S _ hSI gS;show wpAny _ X.A.in1 (updateSeq S (λ_=>#[]) >>= _) _ _ _;refine Jaf ?_;refine Jc3 gS' rfl (Jaf (Jev (Jan ?_)));have s1:=Jex h' S (Obj.mapSeq λ_=>(#[]:Array Value));have I2:=I1.turned (t':=s.toks) (h':=h'.update S (Obj.mapSeq λ_=>(#[]:Array Value))) (λb o hb e=>(s1.2 b hb).trans e) fS.1 fS.2.1 fS.2.2.2.1 fS.2.2.2.2.1 fS.2.2.2.2.2;exact hR i vb ub _ H ⟨by omega,λj' hj'=>hbest j' (by omega)⟩ hvb rvb sm I2
 | succ r ih=>
  intro j i s H vb ub tb n hr hj sm I L fS fI gS hit hvb rvb hij hbest;have hlt:j + 1 < xs.length:=by omega
  obtain ⟨its,rv,p,hz⟩:=I.list (sm.sqL hl0);have hlen:=rv.length;have hx:xs[j + 1]? = some (xs[j + 1]'hlt):=Jaa hlt;obtain ⟨u,hu,ru⟩:=rv.get hx;refine Jeb Jef ?_;rw [Jda Jcf _];show wpAny _ X.A.in1 (seqItems? (.ref S) >>= _) _ _ _;refine Jaf (Jd4 gS rfl ?_);show wpAny _ X.A.in1 (tryCatch (pyNext (.ref It)) _ >>= _) _ _ _;refine Jaf (Jdp (Jee (A:=X.A.in1) hit p.isList (x:=u) (by simpa using hu) λh' hit' sb=>?_));have I1:Inv X pins σ H { s with heap:=h' }:=I.turned (t':=s.toks) (λb o hb e=>(sb.2 b hb).trans e) fI.1 fI.2.1 fI.2.2.2.1 fI.2.2.2.2.1 fI.2.2.2.2.2;have gS':h'.get? S = some (seqObj "list" #[ub,.int (kf i) tb] n):=(sb.2 S hSI).trans gS;obtain ⟨oI,goI,hoc,hod⟩:=id hit';have L1:LamAt X pins sc params body qual P H { s with heap:=h' } f c' cl ctv pm:=⟨(sb.2 f hfI).trans L.fn,L.fp,L.cod,L.hcl,L.hcl2⟩
  show wpAny _ X.A.in1 (tryCatch (holding [u] (call (.ref f) [u])) _ >>= _) _ _ _;refine Jaf (Jdp (Jca (Jbz (Zq0 (i:=j + 1) hc hroom B hbd he I1 L1 (ht (j + 1) _ H hx sm) ru fS gS' (λv z=>by cases z) fI goI (λv z=>by rw [hod] at z; cases z)) (λy s2 hy=>?_) λ_ _ hF=>hF.elim)));obtain ⟨t2,H2,rfl,sm2,I2,L2',gS2,nS2,gI2,nI2⟩:=hy;have hit2:s2.heap.IsListIter It l (j + 1 + 1):=⟨oI,gI2,hoc,hod⟩
  show wpAny _ X.A.in1 (tryCatch (holding [u,.int (kf (j + 1)) t2] (richCompare .Lt (.int (kf (j + 1)) t2) (.int (kf i) tb) >>= _)) _ >>= _) _ _ _;refine Jaf (Jdp (Jca (Jaf (CmpOf.ints_lt (prog:=X.prog) (w:=X.w) (A:=X.A.in1) (P:=λi v=>∃ t,v = .int (kf i) t) kf (λi v h=>h) (j + 1) i _ _ _ _ _ ⟨t2,rfl⟩ ⟨tb,rfl⟩ ?_))));refine Jaf (Jca (Jb9 ?_));refine Jaf (Jev (Jan ?_));by_cases hb':kf (j + 1) < kf i
  .have s1:=Jex s2.heap S (Obj.mapSeq λ_=>#[u,.int (kf (j + 1)) t2]);obtain ⟨c2,hc2⟩:∃ c2,(s2.heap.update S (Obj.mapSeq λ_=>#[u,.int (kf (j + 1)) t2])).get? S = some (seqObj "list" #[u,.int (kf (j + 1)) t2] c2):=⟨_,get?_update_seq gS2 λ_=>#[u,.int (kf (j + 1)) t2]⟩
   simp only [hb',decide_true,Jdf];refine Jaf ?_;refine Jc3 gS2 rfl (Jaf (Jev ?_));rw [hname];have I3:=I2.turned (t':=s2.toks) (h':=s2.heap.update S (Obj.mapSeq λ_=>#[u,.int (kf (j + 1)) t2])) (λb o hb e=>(s1.2 b hb).trans e) nS2 fS.2.1 fS.2.2.2.1 fS.2.2.2.2.1 fS.2.2.2.2.2;have L3:LamAt X pins sc params body qual P H2 { s2 with heap:=s2.heap.update S (Obj.mapSeq λ_=>#[u,.int (kf (j + 1)) t2]) } f c' cl ctv pm:=⟨(s1.2 f hfS).trans L2'.fn,L2'.fp,L2'.cod,L2'.hcl,L2'.hcl2⟩
   refine Jan ⟨Jec Jcf _,ih (j + 1) (j + 1) _ H2 _ u t2 c2 (oz5 hr) hlt (sm.trans sm2) I3 L3 (fS.same nS2) (fI.same nI2) hc2 ⟨oI,(s1.2 It hSI.symm).trans gI2,hoc,hod⟩ hx ru (Jag _) λj' hj'=>?_⟩;by_cases e:j' = j + 1
   .subst e;exact ⟨by omega,λ_=>by omega⟩
   .have hb1:=hbest j' (oz53 hj' e);have hb2:=hb1.1;exact ⟨by omega,λ_=>by omega⟩
  .simp only [hb',decide_false,Jcn,Jdu];refine Jaf (Jev ?_);rw [hname];refine Jan ⟨Jec Jcf _,ih (j + 1) i s2 H2 vb ub tb n (oz5 hr) hlt (sm.trans sm2) I2 L2' (fS.same nS2) (fI.same nI2) gS2 hit2 hvb rvb (by omega) λj' hj'=>?_⟩;by_cases e:j' = j + 1
   .subst e;exact ⟨by omega,λ_=>by omega⟩
   .exact hbest j' (oz53 hj' e)
theorem Ztn (a v d:Value):argsOk "min" ⟨[a],[(Str.ofString "key",v),(Str.ofString "default",d)]⟩:=by unfold argsOk; kernel_rfl
theorem Ztm {s:Shared} {Q:Value->Shared->Prop} (hc:X.calm = true) (hroom:X.A.depth < recursionLimit) (B:LamScope X sc x fr) (hbd:∀ u pm c' ctv cl,bindArgs (kla_fn "<lambda>" qual params body sc cl pm (.ref c') ctv) ⟨[u],[]⟩ = pure [(x,u)])
  (he:∀ cl f c' s H,PE (Zly X (Zr6 x fr) qual sc cl f (.ref c') X.A.in1 s H) body te) (I:Inv X pins σ H0 s) (L:LamAt X pins sc params body qual P H0 s f c' cl ctv pm)
  (ht:∀ i v H,xs[i]? = some v->Same H0 H->te (Zu0 v fr σ) H λy H'=>y = .int (kf i)/\Same H H') (hl0:SqL X.K H0 l xs)
  (q0:xs = []->∀ s' H',Same H0 H'->Inv X pins σ H' s'->Q .none s')
  (q1:∀ i v u s' H',IsMin kf xs.length i->xs[i]? = some v->RelV v u->Same H0 H'->Inv X pins σ H' s'->Q u s'):
  wpAny (model X.prog X.w) X.A (call (.builtin "min") [.ref l] [(Str.ofString "key",.ref f),(Str.ofString "default",.none)]) Q X.xe s:=by
 have hname:(toString "min" ++ toString ".loop" : String) = "min.loop" := by decide
 obtain ⟨its,rv,p,hz⟩:=I.list hl0;have hlen:=rv.length;obtain ⟨ol,hol,_⟩:=id p.isList;have hll:l < s.heap.objs.size:=Jak hol;have hfl:f < s.heap.objs.size:=Jak L.fn;refine kmk_tree PySem.F.kind_min PySem.F.plain_min PySem.F.entry_min (Ztn _ _ _) ?_;show wpAny _ X.A.in1 (Builtin.Builtins.bindParams "min" ["key","default"] 0 ⟨[],[(Str.ofString "key",.ref f),(Str.ofString "default",.none)]⟩ >>= _) _ _ s;refine Jaf (wpAny_of_eq (show Builtin.Builtins.bindParams "min" ["key","default"] 0 ⟨[],[(Str.ofString "key",.ref f),(Str.ofString "default",.none)]⟩ = pure [some (.ref f),some .none] from rfl) ?_);refine Jaf (Jan ?_);refine Jaf (Jd0 p.isList ?_);refine Jaf (wpAny_newList ?_ (Jb3 _));rw [hname];have hS:(s.heap.push { cls:=.type "list_iterator",data:=.fields #[.ref l,.int 0 0] }).objs.size = s.heap.objs.size + 1:=size_push' ..;have gI:((s.heap.push { cls:=.type "list_iterator",data:=.fields #[.ref l,.int 0 0] }).push (seqObj "list" #[] 0)).get? s.heap.objs.size = some { cls:=.type "list_iterator",data:=.fields #[.ref l,.int 0 0] }:=
  Jai _ (Ja5 _ rfl)
 have gS:((s.heap.push { cls:=.type "list_iterator",data:=.fields #[.ref l,.int 0 0] }).push (seqObj "list" #[] 0)).get? (s.heap.push { cls:=.type "list_iterator",data:=.fields #[.ref l,.int 0 0] }).objs.size = some (seqObj "list" #[] 0):=Ja5 _ rfl;rw [hS] at gS;have hk:∀ b o,s.heap.get? b = some o->((s.heap.push { cls:=.type "list_iterator",data:=.fields #[.ref l,.int 0 0] }).push (seqObj "list" #[] 0)).get? b = some o:=λb o e=>Jai _ (Jai _ e);have I0:Inv X pins σ H0 { s with heap:=(s.heap.push { cls:=.type "list_iterator",data:=.fields #[.ref l,.int 0 0] }).push (seqObj "list" #[] 0) }:=I.kept (t':=s.toks) hk;have fI:FpOk X pins H0 s.heap.objs.size:=I.fpOk (Jag _) (I.hok.fresh (Jag _));have fS:FpOk X pins H0 (s.heap.objs.size + 1):=I.fpOk (Jfg _) (I.hok.fresh (Jfg _));have L0:LamAt X pins sc params body qual P H0 { s with heap:=(s.heap.push { cls:=.type "list_iterator",data:=.fields #[.ref l,.int 0 0] }).push (seqObj "list" #[] 0) } f c' cl ctv pm:=⟨hk _ _ L.fn,L.fp,L.cod,L.hcl,L.hcl2⟩
 have hSI:s.heap.objs.size + 1 ≠ s.heap.objs.size:=by omega
 have p0:PlainL ((s.heap.push { cls:=.type "list_iterator",data:=.fields #[.ref l,.int 0 0] }).push (seqObj "list" #[] 0)) l its.toArray:=by
  obtain ⟨o,n,e,r⟩:=p;exact ⟨o,n,hk _ _ e,r⟩
 have hit:Heap.IsListIter ((s.heap.push { cls:=.type "list_iterator",data:=.fields #[.ref l,.int 0 0] }).push (seqObj "list" #[] 0)) s.heap.objs.size l 0:=⟨_,gI,rfl,rfl⟩
 refine Jan ⟨Jec Jcf _,?_⟩;rw [hS];refine Jeb Jef ?_;rw [Jda Jcf _];show wpAny _ X.A.in1 (seqItems? (.ref _) >>= _) _ _ _;refine Jaf (Jd4 gS rfl ?_);show wpAny _ X.A.in1 (tryCatch (pyNext (.ref s.heap.objs.size)) _ >>= _) _ _ _;cases hxs:xs with
 | nil=>
  subst hxs;have e0:its = []:=List.length_eq_zero_iff.mp (by simpa using hlen.symm);refine Jaf (Jdp (Jei (A:=X.A.in1) (I.ok.hd hc) hit p0.isList (by rw [e0]; rfl) λh' eb=>?_));have I1:Inv X pins σ H0 { s with heap:=h' }:=I0.turned (t':=s.toks) (λb o hb e=>eb b o hb e) fI.1 fI.2.1 fI.2.2.2.1 fI.2.2.2.2.1 (λp hp=>fI.2.2.2.2.2 p hp);show wpAny _ X.A.in1 (rule _ >>= _) _ _ _;exact Jaf (Jfm (Jan (q0 rfl _ H0 (Same.refl _) I1)))
 | cons v0 r0=>
  have hne:0 < xs.length:=by rw [hxs]; exact Nat.zero_lt_succ _
  have hx:xs[0]? = some v0:=by rw [hxs]; rfl
  rw [<- hxs] at *;obtain ⟨u,hu,ru⟩:=rv.get hx;refine Jaf (Jdp (Jee (A:=X.A.in1) hit p0.isList (x:=u) (by simpa using hu) λh' hit' sb=>?_));have I1:Inv X pins σ H0 { s with heap:=h' }:=I0.turned (t':=s.toks) (λb o hb e=>(sb.2 b hb).trans e) fI.1 fI.2.1 fI.2.2.2.1 fI.2.2.2.2.1 fI.2.2.2.2.2;have gS':h'.get? (s.heap.objs.size + 1) = some (seqObj "list" #[] 0):=(sb.2 _ hSI).trans gS;obtain ⟨oI,goI,hoc,hod⟩:=id hit';have L1:LamAt X pins sc params body qual P H0 { s with heap:=h' } f c' cl ctv pm:=⟨(sb.2 f (Ja6 hfl)).trans L0.fn,L.fp,L.cod,L.hcl,L.hcl2⟩
  show wpAny _ X.A.in1 (tryCatch (holding [u] (call (.ref f) [u])) _ >>= _) _ _ _;refine Jaf (Jdp (Jca (Jbz (Zq0 (i:=0) hc hroom B hbd he I1 L1 (ht 0 _ H0 hx (Same.refl _)) ru fS gS' (λv z=>by cases z) fI goI (λv z=>by rw [hod] at z; cases z)) (λy s2 hy=>?_) λ_ _ hF=>hF.elim)));obtain ⟨t2,H2,rfl,sm2,I2,L2',gS2,nS2,gI2,nI2⟩:=hy;have s1:=Jex s2.heap (s.heap.objs.size + 1) (Obj.mapSeq λ_=>#[u,.int (kf 0) t2]);obtain ⟨c2,hc2⟩:∃ c2,(s2.heap.update (s.heap.objs.size + 1) (Obj.mapSeq λ_=>#[u,.int (kf 0) t2])).get? (s.heap.objs.size + 1) = some (seqObj "list" #[u,.int (kf 0) t2] c2):=⟨_,get?_update_seq gS2 λ_=>#[u,.int (kf 0) t2]⟩
  show wpAny _ X.A.in1 (updateSeq (s.heap.objs.size + 1) (λ_=>#[u,.int (kf 0) t2]) >>= _) _ _ _;refine Jaf ?_;refine Jc3 gS2 rfl ?_;rw [hname];have I3:=I2.turned (t':=s2.toks) (h':=s2.heap.update (s.heap.objs.size + 1) (Obj.mapSeq λ_=>#[u,.int (kf 0) t2])) (λb o hb e=>(s1.2 b hb).trans e) nS2 fS.2.1 fS.2.2.2.1 fS.2.2.2.2.1 fS.2.2.2.2.2;have hfS:f ≠ s.heap.objs.size + 1:=Ja6 (Jcl hfl);have L3:LamAt X pins sc params body qual P H2 { s2 with heap:=s2.heap.update (s.heap.objs.size + 1) (Obj.mapSeq λ_=>#[u,.int (kf 0) t2]) } f c' cl ctv pm:=⟨(s1.2 f hfS).trans L2'.fn,L2'.fp,L2'.cod,L2'.hcl,L2'.hcl2⟩
  refine Jan ⟨Jec Jcf _,Ztl (H0:=H0) hc hroom B hbd he (Ja6 hll) hSI (Ja6 hfl) hfS ht hl0 (λi v u s' H' a b c d e=>q1 i v u s' H' a b c d e) _ 0 0 _ H2 v0 u t2 c2 rfl hne sm2 I3 L3 (fS.same nS2) (fI.same nI2) hc2 ⟨oI,(s1.2 _ hSI.symm).trans gI2,hoc,hod⟩ hx ru (Jag _) λj' hj'=>?_⟩;have e:j' = 0:=by omega
  subst e;exact ⟨by omega,λh=>absurd h (Jbs _)⟩
end
def tMinL (K:PySem.W.Frag) (P:Addr) (ln co:Int) (q:Str) (fr:List (Str × Nat)) (ta te:TE):TE:=λσ H Q=>ta σ H λv H1=>∃ l xs,∃ kf:Nat->Int,v = .ref l/\SqL K H1 l xs/\H1 P = some (.tab ln co q) /\
 (∀ i v H,xs[i]? = some v->Same H1 H->te (Zu0 v fr σ) H λy H'=>y = .int (kf i)/\Same H H')/\(xs = []->∀ H',Same H1 H'->Q .non H')/\∀ i v H',IsMin kf xs.length i->xs[i]? = some v->Same H1 H'->Q v H'
section
variable {X:Cx} {sc:Scope} {x:Str} {fr:List (Str × Nat)} {P c:Addr} {params:Arguments} {body e:Expr} {lpos p pos k1 k2 kp:Pos} {ta te:TE}
theorem pe_minL {i0:Nat} (hc:X.calm = true) (hroom:X.A.depth < recursionLimit) (hg:Gl X "min") (hm:X.mg "min" = none) (B:LamScope X sc x fr) (hcode:X.env.code = .ref c) (C:CodeHd X.base c P) (hdef:defaultsOf params X.env = ([],[]))
  (hbd:∀ u pm c' ctv cl,bindArgs (kla_fn "<lambda>" (X.env.qual ++ "<lambda>") params body sc cl pm (.ref c') ctv) ⟨[u],[]⟩ = pure [(x,u)])
  (ha:PE X e ta) (he:∀ cl f c' s H,PE (Zly X (Zr6 x fr) (X.env.qual ++ "<lambda>") sc cl f (.ref c') X.A.in1 s H) body te) (hs:Zb3 e = false:=by rfl):
  PE X (.Call (.Name "min" p) [e] [⟨some "key",.Lambda params body sc lpos,k1⟩,⟨some "default",.Constant .none i0 kp,k2⟩] pos) (tMinL X.K P (lpos.line:Int) (lpos.col:Int) (X.env.qual ++ "<lambda>") fr ta te):=by
 intro pins s σ H Q I h;refine Jdt (Zfg I hg hm boot_min ?_ (by decide) (by decide));have hst:backTo pos (starEach [e] X.env) = (false,eval e X.env) :: backTo pos (starEach [] X.env):=by rw [Za8 hs]; rfl
 refine callWith_kw (id:="min") (e:=e) (rest:=[]) ?_ hst (by rw [hst]; rfl) (by rfl) (by rfl);rw [hst];refine Je0 (thn (ha pins s σ H _ I h) λu s1 ⟨v,H1,I1,r1,h1⟩=>?_);obtain ⟨l,xs,kf,rfl,hl,hP,ht,q0,q1⟩:=h1;cases r1;refine Jfb ?_;refine kws_cons (mk_lam I1 B hcode C hP hdef λs2 H2 f c' cl ctv pm I2 sm L=>?_);refine kws_cons (Constant_none (kws_nil ?_));show wpAny _ _ (call (.builtin "min") [.ref l] [(Str.ofString "key",.ref f),(Str.ofString "default",.none)]) _ _ s2;refine Ztm (kf:=kf) hc hroom B hbd he I2 L (λi v H hi sm2=>ht i v H hi (sm.trans sm2)) (sm.sqL hl) (λe0 s' H' sm2 I'=>?_) λi v u s' H' hmn hi ru sm2 I'=>?_
 .exact ⟨.non,H',I',rfl,q0 e0 H' (sm.trans sm2)⟩
 .exact ⟨v,H',I',ru,q1 i v H' hmn hi (sm.trans sm2)⟩
end
abbrev Tbs:=List (Addr × Int × Int × Str)
def Zl8 (tb:Tbs) (H:Hp):Prop:=∀ b t,tb.lookup b = some t->H b = some (.tab t.1 t.2.1 t.2.2)
noncomputable def hp0 (K:PySem.W.Frag) (tb:Tbs) (a:Addr) (oa:Obj) (xs:List V):Hp:=λb=>if b = a then (if (K.lookup a).isSome = true then none else some (.frz oa (.lst xs))) else (tb.lookup b).map λt=>.tab t.1 t.2.1 t.2.2
theorem Zqz {P:Program} {w:World} {K:PySem.W.Frag} {mg mb:Str->Option Value} {CX:CXT} {k:Nat} {fa a:Addr} {fd:FuncData} {x:Str} {sp:Sp} {s₁:Shared} {vs:List Value} {ns:List Int} {tb:Tbs}
  (KX:K.In s₁.heap) (hns:s₁.heap.Ns mainGlobals mg) (hb:s₁.heap.Ns builtinsNs mb) (hbb:∀ x:Str,x ≠ "__name__" -> mb x = bootBuiltins x) (hlim:s₁.heap.NoLimit) (hseer:s₁.heap.NoSeer)
  (hbm:∃ bm ob,mg "__builtins__" = some (.ref bm)/\bm ≠ builtinsNs/\s₁.heap.get? bm = some ob/\ob.cls = .type "module" /\ ob.dict = some builtinsNs/\ob.data = .plain) (hg:s₁.gens = #[])
  (htb:∀ b t,tb.lookup b = some t->s₁.heap.get? b = some (tabObj #[])/\K.lookup b = none/\isCodeTable s₁.heap b)
  (ha:s₁.heap.get? a = some { cls:=.type "list",data:=.seq vs.toArray }) (hi:IntsAre vs ns) (hl:ns.length<=sizeLine) (hr:Room k callerA)
  (F:∀ base:Heap,K.In base->base.Ns mainGlobals mg->FnOk P w K mg base CX k fa fd [x] sp) (hbind:∀ (s:Shared) (u:Value),BindsTo s fd ⟨[u],[]⟩ [(x,u)])
  (hsp:∀ H:Hp,SqL K H a (ns.map V.int)->Zl8 tb H->sp [.ref a] H (λv H'=>v = .bl true/\Zl8 tb H') λ_ _ _=>False)
  (hCX:∀ H e s',CX [] H s₁ (λ_ _ _=>False) e s'->False):
  codeAny (model P w) callerA (.call (.ref fa) ⟨[.ref a],[]⟩) (λr s'=>r = .ok (.ret (.bool true))/\OldK s₁.heap s'.heap/\s'.os = s₁.os/\AllBare s'.gens) s₁:=by
 have rv:=Zkq hi;have lenV:=hi.length;generalize hH:hp0 K tb a { cls:=.type "list",data:=.seq vs.toArray } (ns.map V.int) = H;have tne:∀ b t,tb.lookup b = some t->b ≠ a:=λb t e z=>by
  have:=(htb b t e).1;rw [z,ha] at this;cases this
 have hT:Zl8 tb H:=λb t e=>by
  rw [<- hH];unfold hp0;rw [if_neg (tne b t e),e];rfl
 have cases3:∀ b,H b = none\/(b = a/\K.lookup a = none/\H b = some (.frz { cls:=.type "list",data:=.seq vs.toArray } (.lst (ns.map V.int))))\/∃ t,tb.lookup b = some t/\H b = some (.tab t.1 t.2.1 t.2.2):=λb=>by
  rw [<- hH];unfold hp0;by_cases hba:b = a
  .rw [if_pos hba];cases hk:K.lookup a with
   | none=>exact .inr (.inl ⟨hba,rfl,rfl⟩)
   | some o=>exact .inl rfl
  .rw [if_neg hba];cases ht:tb.lookup b with
   | none=>exact .inl rfl
   | some t=>exact .inr (.inr ⟨t,rfl,rfl⟩)
 have free:∀ {b:Addr} {o:Obj},s₁.heap.get? b = some o->(∀ xs n,o.data ≠ .seq xs n)->(∀ xs,o.data ≠ .fields xs)->H b = none:=λ{b o} e d1 d2=>by
  rcases cases3 b with h | ⟨rfl,_,_⟩ | ⟨t,h,_⟩
  .exact h
  .rw [ha] at e;cases e;exact absurd rfl (d1 _ _)
  .rw [(htb b t h).1] at e;cases e;exact absurd rfl (d2 _)
 have base_of:∀ {b:Addr} {o:Obj},s₁.heap.get? b = some o->H b = none->(Zr7 s₁.heap H).get? b = some o:=λe n=>Ztu e n;have nsK:∀ {b:Addr} {m:Str->Option Value},s₁.heap.Ns b m->(Zr7 s₁.heap H).Ns b m:=λ{b m} ⟨o,es,ep,e,d,r⟩=>⟨o,es,ep,base_of e (free e (λxs n z=>by rw [d] at z; cases z) λxs z=>by rw [d] at z; cases z),d,r⟩
 have hKb:K.In (Zr7 s₁.heap H):=λb o e=>base_of (KX b o e) (by
  rcases cases3 b with h | ⟨rfl,h,_⟩ | ⟨t,h,_⟩
  .exact h
  .rw [h] at e; cases e
  .rw [(htb b t h).2.1] at e; cases e)
 have seerB:(Zr7 s₁.heap H).NoSeer:=⟨let ⟨mc,x,y⟩:=hseer.statics; ⟨mc,nsK x,y⟩,let ⟨mc,x,y⟩:=hseer.mods; ⟨mc,nsK x,y⟩,let ⟨mc,x,y⟩:=hseer.imp; ⟨mc,nsK x,y⟩,let ⟨mg',bm,ob,x,y,z,u,v⟩:=hseer.main; ⟨mg',bm,ob,nsK x,y,base_of z (by
   rcases cases3 bm with h | ⟨rfl,_,_⟩ | ⟨t,h,_⟩
   .exact h
   .rw [ha] at z; cases z;have u':Value.type "list" = Value.type "module" := u
    injection u' with u'
    exact absurd u' (by decide)
   .rw [(htb bm t h).1] at z; cases z;cases u),u,v⟩⟩
 have hM:Mod K mg (Zr7 s₁.heap H):=⟨hKb,nsK hns,⟨mb,nsK hb,hbb⟩,let ⟨mc,h1,h2⟩:=hlim; ⟨mc,nsK h1,h2⟩,seerB,let ⟨bm,ob,x1,x2,x3,x4,x5,x6⟩:=hbm; ⟨bm,ob,x1,x2,base_of x3 (free x3 (λxs n z=>by rw [x6] at z; cases z) λxs z=>by rw [x6] at z; cases z),x4,x5,x6⟩⟩
 have hS:SqL K H a (ns.map V.int):=by
  rcases hk:K.lookup a with _ | o
  .refine .inl (.inr ⟨{ cls:=.type "list",data:=.seq vs.toArray },?_⟩);rw [<- hH];unfold hp0;rw [if_pos rfl,hk];rfl
  .have e:=KX a o hk;rw [ha] at e;cases e;exact .inr ⟨_,vs.toArray,_,hk,rfl,rfl,rfl,by rw [Jaq,lenV]; exact hl,by simpa using rv⟩
 have hok:HOk P w H s₁.heap:=λb u e=>by
  rcases cases3 b with h | ⟨rfl,_,h⟩ | ⟨t,h0,h⟩
  .rw [h] at e; cases e
  .rw [h] at e; cases e;exact ⟨ha,by rw [Jab]; exact hl,vs,_,rv,ha⟩
  .rw [h] at e; cases e;exact .inl (htb b t h0).1
 have e0:Env0 P w K mg (Zr7 s₁.heap H) callerA [] s₁ H:=⟨rfl,hM,λb o e=>of_hidT e,Nat.le_of_eq (Zrc _ _),trivial,λb hb=>absurd (show b ∈ ([]:List Addr) from hb) (by simp),hok,.of_eq hg⟩
 refine Je1 ((F _ hKb (nsK hns)).run callerA [] s₁ H ⟨[.ref a],[]⟩ [.ref a] [.ref a] _ _ hr e0 (hbind s₁ (.ref a)) (.cons rfl .nil) (hsp H hS hT)) λr s' h=>?_;cases r with
 | error e=>exact (hCX H e s' h).elim
 | ok fl=>
  cases fl with
  | next=>exact False.elim h
  | brk=>exact False.elim h
  | cont=>exact False.elim h
  | ret u=>
   obtain ⟨v,H',os,bare,un,hok',r',q⟩:=h;obtain ⟨q',hT'⟩:=q;subst q';obtain rfl:u = Value.bool true:=r';have noF:∀ b:Addr,b ∉ frs ([]:List Env):=λb z=>absurd (show b ∈ ([]:List Addr) from z) (by simp);refine ⟨rfl,⟨λb o e=>?_,λb o e=>un.there b o e (by simp)⟩,os,bare⟩;rcases cases3 b with h | ⟨rfl,_,h⟩ | ⟨t,h0,h⟩
   .exact .inl (un.keep b o e h (noF b) (by simp))
   .have z2:=un.frzs _ _ _ h;obtain ⟨e1,_⟩:=hok _ _ h;obtain ⟨e2,_⟩:=hok' _ _ z2;rw [e] at e1; cases e1;exact .inl e2
   .rw [(htb b t h0).1] at e;cases e;rcases hok' b _ (hT' b t h0) with e2 | ⟨c',oc,ws,tk,e2,_⟩
    .exact .inl e2
    .exact .inr (.inl ⟨(htb b t h0).2.2,rfl,#[],_,rfl,by rw [e2,Array.empty_append]⟩)
theorem Zr9 {l:PySem.W.OpenLaw} {n k:Nat} {q:Program} {loose:List Str} {XP:(Str->Option Value)->Heap->Prop} {YP:World->Heap->Prop} {d:DefRec} {K:Params->PySem.W.Frag} {CX:World->CXT} {sp:World->Sp} {x:Str} {tb:Tbs}
  (hq:importsNone q = true) (hn:l.most = some n) (hn2:n<=sizeLine) (hdf:d.params.defaults = []) (hr:Room k callerA)
  (hY:∀ (w:World) (h:Heap),YP w h->(K w.params).In h) (htb:∀ (w:World) (h:Heap),YP w h->∀ b t,tb.lookup b = some t->h.get? b = some (tabObj #[])/\(K w.params).lookup b = none/\isCodeTable h b)
  (F:∀ (w:World) (mg:Str->Option Value) (fa:Addr) (h:Heap),(K w.params).In h->h.Ns mainGlobals mg->mg d.name = some (.ref fa)->
   ∃ fd:FuncData,(∀ (s:Shared) (u:Value),BindsTo s fd ⟨[u],[]⟩ [(x,u)]) /\
    ∀ base:Heap,(K w.params).In base->base.Ns mainGlobals mg->FnOk l.prog w (K w.params) mg base (CX w) k fa fd [x] (sp w))
  (hsp:∀ (w:World) (H:Hp) (a:Addr) (ns:List Int),ns.length<=n->SqL (K w.params) H a (ns.map V.int)->Zl8 tb H->sp w [.ref a] H (λv H'=>v = .bl true/\Zl8 tb H') λ_ _ _=>False)
  (hCX:∀ (w:World) (H:Hp) (s:Shared) (e:Value) (s':Shared),CX w [] H s (λ_ _ _=>False) e s'->False):
  PySem.W.WalkO q loose XP YP l.row.toRowW d [] (λf vs=>PySem.call f vs):=by
 refine Att.attach_call hn hdf λw s₀ s₁ mg mb fa o pm cd doc a vs ns G Y ho hd hcd hmg hobj hints hlen hg=>?_;have KX:=hY w _ Y;obtain ⟨fd,hb,hF⟩:=F w mg fa _ KX G.T.g hmg;exact Zqz KX G.T.g G.T.b G.T.builtins G.T.nolimit (G.T.seer hq) G.T.bmain hg (htb w _ Y) hobj hints (Jat hlen hn2) hr hF hb (λH hS hT=>hsp w H a ns hlen hS hT) λH e s'=>hCX w H s₁ e s'
noncomputable def lamOk (outer:List (Str × NameKind)) (N:List Str) (sc:Scope) (x:Str) (fr:List (Str × Nat)):Bool:=
 sc.kind == .function && !sc.isCoroutine && !sc.isGenerator && sc.names.all (λy=>y.2 != .cell) && sc.names.lookup x == some .local &&
 sc.names.all (λy=>y.2 != .free || outer.lookup y.1 == some .cell || outer.lookup y.1 == some .free) &&
 fr.all λy=>sc.names.lookup y.1 == some .free && N[y.2]? == some y.1
theorem lam_of {X:Cx} {sc:Scope} {x:Str} {fr:List (Str × Nat)} (h:lamOk X.env.scope.names X.N sc x fr = true):LamScope X sc x fr:=by
 unfold lamOk at h;simp only [Jb7,Jcj] at h;obtain ⟨⟨⟨⟨⟨⟨h1,h2⟩,h3⟩,h4⟩,h5⟩,h6⟩,h7⟩:=h;refine ⟨?_,?_,?_,λy hy z=>?_,Jbx.mp h5,λy hy hf=>?_,λy hy=>?_⟩
 .cases e:sc.kind <;> rw [e] at h1 <;> first | rfl | (exact absurd h1 (by decide))
 .simpa using h2
 .simpa using h3
 .have:=h4 y hy;rw [z] at this;exact absurd this (by decide)
 .have:=h6 y hy;rw [hf] at this;simp only [Jdh,Jbx] at this;rcases this with (q | q) | q
  .exact absurd q (by decide)
  .exact .inl q
  .exact .inr q
 .have:=h7 y hy;exact ⟨Jbx.mp this.1,Jbx.mp this.2⟩
structure FunC (K:PySem.W.Frag) (x qual:Str) (st:Stmt) (f:Addr) (fd:FuncData) (c:Addr):Prop where
 ex:∃ (oc:Value) (od:Option Addr) (kV doc pm:Value) (an:Option Addr) (ct:Value) (osl:Array (Option Value)),
  fd = PySem.W.fnOf x qual (Zam st) (Zak st) (Zad st) .none kV doc pm an (.ref c) ct/\K.lookup f = some ⟨oc,od,.func fd,osl⟩/\PySem.W.codeIn K (.ref c) qual = true
section
variable {P:Program} {w:World} {K:PySem.W.Frag} {mg:Str->Option Value} {base:Heap}
theorem FunC.ok {x qual:Str} {st:Stmt} {f c:Addr} {fd:FuncData} {N ps:List Str} {k:Nat} {sp:L2.Sp} (F:FunC K x qual st f fd c) (S:FnScope N ps (Zad st)) (len:∀ vs H Q E,sp vs H Q E->vs.length = ps.length)
  (hbody:∀ (A:Around) (outer:List Env) (s:Shared) (H:Hp) (vs:List V) (Q:VK) (E:XK),Room k (A.deeper (envOfC qual (Zad st) s.heap.objs.size f (.ref c)))->sp vs H Q E->
   ∃ t,PSs (Zt4 CX0 P w K mg base N qual (Zad st) f (.ref c) A outer s H E).nox (Zak st) t/\t { nx:=λ_ H'=>Q .non H',rt:=Q } (start N vs) H):FnOk P w K mg base CX0 (k + 1) f fd ps sp:=by
 obtain ⟨oc,od,kV,doc,pm,an,ct,osl,rfl,lk,hcd⟩:=F.ex;refine fn_of lk hcd S len λA outer s H vs Q E hr hsp=>?_;obtain ⟨t,h,q⟩:=hbody A outer s H vs Q E hr hsp;exact ⟨t,h.nox,q⟩
theorem FunC.binds {x qual:Str} {st:Stmt} {f c:Addr} {fd:FuncData} {ps:List Str} (F:FunC K x qual st f fd c)
  (h:∀ (kV doc pm:Value) (an:Option Addr) (cdv ct:Value) (us:List Value),us.length = ps.length->bindArgs (PySem.W.fnOf x qual (Zam st) (Zak st) (Zad st) .none kV doc pm an cdv ct) ⟨us,[]⟩ = pure (ps.zip us)):Binds K fd ps []:=by
 obtain ⟨oc,od,kV,doc,pm,an,ct,osl,rfl,lk,hcd⟩:=F.ex;exact .all (h kV doc pm an (.ref c) ct)
end
end L2
namespace L2
open PySem PySem.Spec PyProof.Rows PySem.W
noncomputable def hdIn (K:PySem.W.Frag) (c P:Addr):Bool:=
 match List.lookup c K with
 | some ⟨.type t,_,.fields (vs:Array Value),_⟩=>t == "code" && (match (vs[11]?:Option Value) with | some (Value.ref q)=>q == P | _=>false) && (match vs.getD 11 .none with | .ref q=>q == P | _=>false) && (match vs.getD 18 .none with | .str _ _=>true | _=>false) && (match vs.getD 7 .none with | .int _ _=>true | _=>false) && (match vs.getD 9 .none with | .bool _=>true | _=>false) && (match vs.getD 10 .none with | .int _ _=>true | _=>false) && c != P
 | _=>false
theorem hd_of {K:PySem.W.Frag} {h:Heap} {c P:Addr} (X:K.In h) (e:hdIn K c P = true):PySem.W.CodeHd h c P:=by
 unfold hdIn at e;split at e
 .rename_i t d vs sl hl
  simp only [Jb7] at e;obtain ⟨⟨⟨⟨⟨⟨⟨e1,e2⟩,e3⟩,e4⟩,e5⟩,e6⟩,e7⟩,e8⟩:=e;have e1:=eq_of_beq e1;subst e1;have h2:vs[11]? = some (.ref P):=by
   split at e2
   .rename_i q hq
    rw [hq,eq_of_beq e2]
   .cases e2
  have h3:vs.getD 11 .none = .ref P:=by
   split at e3
   .rename_i q hq
    rw [hq,eq_of_beq e3]
   .cases e3
  have h4:∃ f t,vs.getD 18 .none = .str f t:=by
   split at e4
   .rename_i f t hq
    exact ⟨f,t,hq⟩
   .cases e4
  have h5:∃ f t,vs.getD 7 .none = .int f t:=by
   split at e5
   .rename_i f t hq
    exact ⟨f,t,hq⟩
   .cases e5
  have h6:∃ f,vs.getD 9 .none = .bool f:=by
   split at e6
   .rename_i f hq
    exact ⟨f,hq⟩
   .cases e6
  have h7:∃ f t,vs.getD 10 .none = .int f t:=by
   split at e7
   .rename_i f t hq
    exact ⟨f,t,hq⟩
   .cases e7
  obtain ⟨f1,t1,h4⟩:=h4;obtain ⟨f2,t2,h5⟩:=h5;obtain ⟨f3,h6⟩:=h6;obtain ⟨f4,t4,h7⟩:=h7;exact ⟨_,vs,f1,t1,f2,t2,f3,f4,t4,X c _ hl,rfl,rfl,h2,h3,h4,h5,h6,h7,by simpa using e8⟩
 .cases e
theorem Zsa {l:PySem.W.OpenLaw} {n k:Nat} {q:Program} {loose:List Str} {XP:(Str->Option Value)->Heap->Prop} {YP:World->Heap->Prop} {d:DefRec} {K:Params->PySem.W.Frag} {sp:World->Sp} {x:Str} (cL PL:Addr) (ln co:Int) (qu:Str)
  (hq:importsNone q = true) (hn:l.most = some n) (hn2:n<=sizeLine) (hdf:d.params.defaults = []) (hr:Room k callerA)
  (hY:∀ (w:World) (h:Heap),YP w h->(K w.params).In h) (hP:∀ (w:World) (h:Heap),YP w h->h.get? PL = some (PySem.W.tabObj #[])) (hN:∀ p,(K p).lookup PL = none) (hC:∀ p,hdIn (K p) cL PL = true)
  (F:∀ (w:World) (mg:Str->Option Value) (fa:Addr) (h:Heap),(K w.params).In h->h.Ns mainGlobals mg->mg d.name = some (.ref fa)->
   ∃ fd:FuncData,(∀ (s:Shared) (u:Value),BindsTo s fd ⟨[u],[]⟩ [(x,u)]) /\
    ∀ base:Heap,(K w.params).In base->base.Ns mainGlobals mg->FnOk l.prog w (K w.params) mg base CX0 k fa fd [x] (sp w))
  (hsp:∀ (w:World) (H:Hp) (a:Addr) (ns:List Int) (Q:VK) (E:XK),ns.length<=n->SqL (K w.params) H a (ns.map V.int)->H PL = some (.tab ln co qu)->(∀ H',H' PL = some (.tab ln co qu)->Q (.bl true) H')->sp w [.ref a] H Q E):
  PySem.W.WalkO q loose XP YP l.row.toRowW d [] (λf vs=>PySem.call f vs):=by
 have one:∀ b t,([(PL,ln,co,qu)]:Tbs).lookup b = some t->b = PL/\t = (ln,co,qu):=λb t e=>by
  rw [Jba] at e;split at e
  .rename_i hb
   cases e;exact ⟨eq_of_beq hb,rfl⟩
  .cases e
 have two:([(PL,ln,co,qu)]:Tbs).lookup PL = some (ln,co,qu):=by rw [Jba]; simp
 refine Zr9 (l:=l) (n:=n) (k:=k) (K:=K) (CX:=λ_=>CX0) (sp:=sp) (x:=x) (tb:=[(PL,ln,co,qu)]) hq hn hn2 hdf hr hY (λw h Y b t e=>?_) F (λw H a ns hl hS hT=>?_) (λ_ _ _ _ _ h=>h)
 .obtain ⟨rfl,_⟩:=one b t e;have g:=hP w h Y;exact ⟨g,hN _,((hd_of (hY w h Y) (hC _)).tab g).isCodeTable⟩
 .refine hsp w H a ns _ _ hl hS (hT PL _ two) λH' h'=>⟨rfl,λb t e=>?_⟩
  obtain ⟨rfl,rfl⟩:=one b t e;exact h'
end L2
namespace L2
open PySem PySem.Spec PyProof.Rows
abbrev two (elt t1 i1 t2 i2:Expr) (scope:Scope) (pos:Pos):Expr:=.ListComp elt [⟨t1,i1,[],0⟩,⟨t2,i2,[],0⟩] scope pos
section
variable {prog:Program} {w:World} {A:Around} {R:Result->Shared->Prop} {s:Shared} {elt t1 i1 t2 i2:Expr} {scope:Scope} {pos:Pos} {it acc:Value} {env:Env}
theorem Zpc (h0:codeAny (model prog w) A (.compLoop (two elt t1 i1 t2 i2 scope pos) 1 it acc env) R s)
  (h:wpAny (model prog w) A (pyIter it) (λit' s'=>codeAny (model prog w) A (.compLoop (two elt t1 i1 t2 i2 scope pos) 1 it' acc env) R s') (notedBy (model prog w) A env λx s'=>R (.error x) s') s):
  codeAny (model prog w) A (.compStart (two elt t1 i1 t2 i2 scope pos) 1 it acc env) R s:=by
 refine codeAny_of_tree ?_;refine wpAny_notedAt ?_;unfold compStart;refine Jaf (wpAny_askSetting (wpAny_ite ?_));split
 .exact Jaf (Jan (Jan ⟨rfl,h0⟩))
 .refine Jaf (Jfm (Jaf (Jc7 (Jaf ?_))));exact Jbz h (λit' s' h'=>Jan ⟨rfl,h'⟩) λx x_1 x_2=>x_2
theorem Zo5:compTurn (two elt t1 i1 t2 i2 scope pos) 1 it acc env = (do
  standAt i2.pos
  let r <- pyNext it
  match r with
  | none=>pure (Fin.done Flow.next)
  | some v=>do
   letOwnedTupleGo t2 it v
   assign t2 env v
   ((eval elt env >>= λx=>call (.builtin "list.append") [acc,x] >>= λ_=>(pure ():Sem Unit)) >>= λ_=>again (.compLoop (two elt t1 i1 t2 i2 scope pos) 1 it acc env))):=by
 rfl
theorem Zo6:compTurn (two elt t1 i1 t2 i2 scope pos) 0 it acc env = (do
  standAt i1.pos
  let r <- pyNext it
  match r with
  | none=>pure (Fin.done Flow.next)
  | some v=>do
   letOwnedTupleGo t1 it v
   assign t1 env v
   let x <- eval i2 env
   standAt i2.pos
   let x <- foldedSetIterable i2 env x
   let j <- holding [x] (pyIter x)
   let _ <- runOwn (.compStart (two elt t1 i1 t2 i2 scope pos) 1 j acc env) env
   again (.compLoop (two elt t1 i1 t2 i2 scope pos) 0 it acc env)):=by
 rfl
theorem Zqs (I:Nat->Shared->Prop)
  (turn:∀ n s,I n s->wpAny (model prog w) A (pyNext it) (λr s₁=>match r with
   | none=>R (.ok .next) s₁
   | some v=>wpAny (model prog w) A (letOwnedTupleGo t2 it v) (λ_ s₁'=>wpAny (model prog w) A (assign t2 env v) (λ_ s₂=>wpAny (model prog w) A (eval elt env) (λx s₄=>wpAny (model prog w) A (call (.builtin "list.append") [acc,x]) (λ_ s₅=>∃ m,m < n/\I m s₅) (λ_ _=>False) s₄) (λ_ _=>False) s₂) (λ_ _=>False) s₁') (λ_ _=>False) s₁) (λ_ _=>False) s)
  (n:Nat) (h:I n s):codeAny (model prog w) A (.compLoop (two elt t1 i1 t2 i2 scope pos) 1 it acc env) R s:=by
 refine codeAny_loop rfl I (λn s hI=>?_) n h;show wpAny _ A ((compTurn (two elt t1 i1 t2 i2 scope pos) 1 it acc env).onRaise (λx=>do noteFrame x env; theTreesLotGoes x)) _ _ s;refine wpAny_noted ?_;rw [Zo5];refine Jaf (Jc7 (Jaf (Jbz (turn n s hI) (λr s₁ h₁=>?_) λ_ _ h'=>h'.elim)));cases r with
 | none=>exact Jan h₁
 | some v=>
  refine Jaf (Jbz h₁ (λ_ s₁' h₁'=>?_) λ_ _ h'=>h'.elim);refine Jaf (Jbz h₁' (λ_ s₂ h₂=>?_) λ_ _ h'=>h'.elim);exact Jaf (Jaf (Jbz h₂ (λx s₄ h₄=>Jaf (Jbz h₄ (λ_ s₅ h₅=>Jan (Jan ⟨rfl,h₅⟩)) λ_ _ h'=>h'.elim)) λ_ _ h'=>h'.elim))
theorem Zqt (hs:∀ x,foldedSetIterable i2 env x = pure x) (I:Nat->Shared->Prop)
  (turn:∀ n s,I n s->wpAny (model prog w) A (pyNext it) (λr s₁=>match r with
   | none=>R (.ok .next) s₁
   | some v=>wpAny (model prog w) A (letOwnedTupleGo t1 it v) (λ_ s₁'=>wpAny (model prog w) A (assign t1 env v) (λ_ s₂=>wpAny (model prog w) A (eval i2 env) (λx s₄=>wpAny (model prog w) A (pyIter x) (λj s₅=>codeAny (model prog w) A (.compStart (two elt t1 i1 t2 i2 scope pos) 1 j acc env) (λr s₆=>r = .ok .next/\∃ m,m < n/\I m s₆) s₅) (λ_ _=>False) s₄) (λ_ _=>False) s₂) (λ_ _=>False) s₁') (λ_ _=>False) s₁) (λ_ _=>False) s)
  (n:Nat) (h:I n s):codeAny (model prog w) A (.compLoop (two elt t1 i1 t2 i2 scope pos) 0 it acc env) R s:=by
 refine codeAny_loop rfl I (λn s hI=>?_) n h;show wpAny _ A ((compTurn (two elt t1 i1 t2 i2 scope pos) 0 it acc env).onRaise (λx=>do noteFrame x env; theTreesLotGoes x)) _ _ s;refine wpAny_noted ?_;rw [Zo6];refine Jaf (Jc7 (Jaf (Jbz (turn n s hI) (λr s₁ h₁=>?_) λ_ _ h'=>h'.elim)));cases r with
 | none=>exact Jan h₁
 | some v=>
  refine Jaf (Jbz h₁ (λ_ s₁' h₁'=>?_) λ_ _ h'=>h'.elim);refine Jaf (Jbz h₁' (λ_ s₂ h₂=>?_) λ_ _ h'=>h'.elim);refine Jaf (Jbz h₂ (λx s₄ h₄=>?_) λ_ _ h'=>h'.elim);refine Jaf (Jc7 (Jaf (wpAny_of_eq (hs x) ?_)));refine Jaf (Jca (Jbz h₄ (λj s₅ h₅=>?_) λ_ _ h'=>h'.elim));refine Jaf (wpAny_runOwn (Je1 h₅ λr s₆ h₆=>?_));obtain ⟨rfl,h6⟩:=h₆;exact Jan ⟨rfl,h6⟩
end
def Zmc (g:TG) (wi2:TI) (g2:TG) (te:TE) (J:It) (D:Addr) (σ0:St) (H1:Hp) (Q:VK):Prop:=
 ∃ W:Nat->Nat->St->Hp->Prop,(∃ m,W 0 m σ0 (upd H1 D (.lst [])))/\∀ i m σ' H2,W i m σ' H2->
  (J.stop i H2/\Q (.ref D) H2)\/(J.go i H2/\∀ x H3,J.yld i H2 x H3->g x σ' H3 λσ4 H4=>wi2 σ4 H4 λJ2 H5=>
   ∃ W2:Nat->Nat->St->Hp->Prop,(∃ m2,W2 0 m2 σ4 H5)/\∀ j m2 σ5 H6,W2 j m2 σ5 H6->
    (J2.stop j H6/\∃ m',m' < m/\W (i + 1) m' σ5 H6)\/(J2.go j H6/\∀ y H7,J2.yld j H6 y H7->g2 y σ5 H7 λσ8 H8=>te σ8 H8 λz H9=>
     ∃ vs,H9 D = some (.lst vs)/\vs.length < sizeLine/\∃ m2',m2' < m2/\W2 (j + 1) m2' σ8 (upd H9 D (.lst (vs ++ [z])))))
def tComp2 (k:Nat) (fr:List (Str × Nat)) (wi:TI) (g:TG) (wi2:TI) (g2:TG) (te:TE):TE:=λσ H Q=>wi σ H λJ H1=>∀ D,H1 D = none->Zmc g wi2 g2 te J D (Zgr k fr σ) H1 Q
section
variable {X:Cx} {tg iter t2 i2 elt:Expr} {scope:Scope} {pos:Pos} {own:List Str} {fr:List (Str × Nat)} {wi wi2:TI} {g g2:TG} {te:TE}
theorem Zro {pins:List (Addr × Obj)} {s2:Shared} {σ:St} {H2:Hp} {it:Addr} {fp:List Addr} {tn:Nat->Heap->Prop} {J:It} {Q:VK} {cl:List (Str × Addr)} {RR:Value->Addr->Result->Shared->Prop} {E:Value->Shared->Prop}
  (hc:X.calm = true) (B:BlScope X scope own fr)
  (hs:∀ env x,foldedSetIterable i2 env x = pure x)
  (hb:∀ cl s H fp,PG (Zeq X (Zd6 own fr) scope cl s H fp) tg g/\PI (Zeq X (Zd6 own fr) scope cl s H fp) t2 i2 wi2/\PG (Zeq X (Zd6 own fr) scope cl s H fp) t2 g2/\PE (Zeq X (Zd6 own fr) scope cl s H fp) elt te)
  (hcl:∀ x c,cl.lookup x = some c->X.env.cells.lookup x = some c) (hcl2:∀ y ∈ scope.names,y.2 = .free->∃ c,cl.lookup y.1 = some c)
  (I2:Inv X pins σ H2 s2) (T:Turn X.prog X.w X.K tg J fp it tn) (st2:tn 0 s2.heap) (f2:∀ b ∈ fp,FpOk X pins H2 b) (q:∀ D,H2 D = none->Zmc g wi2 g2 te J D (Zgr own.length fr σ) H2 Q)
  (hRR:∀ D C s' H',Inv X pins σ H' s'->Q (.ref D) H'->(∃ m,s'.heap.Ns C m)->C ≠ X.env.locals->(∀ x c,X.env.cells.lookup x = some c->c ≠ C)->(∀ p ∈ X.pn ++ pins,p.1 ≠ C)->X.s₀.heap.objs.size<=C->H' C = none->RR (.ref D) C (.ok .next) s'):
  wpAny (model X.prog X.w) X.A (newList []) (λacc s₃=>wpAny (model X.prog X.w) X.A (newFunctionEnv scope X.env.globals cl [] X.env.qual none .none (some X.env)) (λcenv s₄=>
   codeAny (model X.prog X.w) X.A (.compStart (two elt tg iter t2 i2 scope pos) 0 (.ref it) acc { cenv with scope:=relabel scope X.env }) (RR acc cenv.locals) s₄) E s₃) E s2:=by
 refine Jc0 ?_;have fr0:H2 s2.heap.objs.size = none:=I2.hok.fresh (Jag _);have I3:=I2.lnew (its:=[]) (ys:=[]) (t':=s2.toks) .nil (Jb3 _);generalize hs3:({ s2 with heap:=s2.heap.push { cls:=.type "list",data:=.seq ([]:List Value).toArray } }:Shared) = s3 at *;have k23:∀ b o,s2.heap.get? b = some o->s3.heap.get? b = some o:=λb o e=>by rw [<- hs3]; exact Jai _ e
 have sz3:s3.heap.objs.size = s2.heap.objs.size + 1:=by rw [<- hs3]; exact Jcz ..
 have I3':Inv X pins σ (upd H2 s2.heap.objs.size (.lst [])) s3:=I3;have fne:∀ b ∈ fp,b ≠ s2.heap.objs.size:=λb hb z=>by
  obtain ⟨o,ho,_⟩:=T.obj 0 _ st2 b hb;exact absurd (Jak ho) (by rw [z]; exact Jbs _)
 have f3:∀ b ∈ fp,FpOk X pins (upd H2 s2.heap.objs.size (.lst [])) b:=λb hb=>⟨by rw [Zal (fne b hb)]; exact (f2 b hb).1,(f2 b hb).2⟩
 have st3:tn 0 s3.heap:=T.keep 0 _ _ st2 λb _ o e=>k23 b o e;have hfo:∀ b ∈ fp,∃ o,s3.heap.get? b = some o:=λb hb=>let ⟨o,ho,_⟩:=T.obj 0 _ st3 b hb; ⟨o,ho⟩;refine Zhg λh' hn hk hce=>?_;have I4:=Zlq (own:=own) I3' B hcl hcl2 f3 hfo hn hk hce;obtain ⟨hg,hi2,hg2,he⟩:=hb cl s3 (upd H2 s2.heap.objs.size (.lst [])) fp;have st4:tn 0 h':=T.keep 0 _ _ st3 λb _ o e=>hk b o e;have stat:∀ {H':Hp},(∀ b ∈ fp,H' b = none)->∀ b ∈ fp,FpOk (Zeq X (Zd6 own fr) scope cl s3 (upd H2 s2.heap.objs.size (.lst [])) fp) [] H' b:=λ{H'} hnn b hb=>
  ⟨hnn b hb,(I4.ok.exf b hb).1,I4.ok.exfs b hb,.inl hb,(I4.ok.exf b hb).2,λp hp=>absurd (show p ∈ ([]:List (Addr × Obj)) from hp) (by simp)⟩
 obtain ⟨W,⟨m0,w0⟩,turn⟩:=q s2.heap.objs.size fr0;have loop:codeAny (model X.prog X.w) X.A (.compLoop (two elt tg iter t2 i2 scope pos) 0 (.ref it) (.ref s2.heap.objs.size) (Zeq X (Zd6 own fr) scope cl s3 (upd H2 s2.heap.objs.size (.lst [])) fp).env)
   (RR (.ref s2.heap.objs.size) s3.heap.objs.size) { s3 with heap:=h' }:=by
  refine Zqt (λx=>hs _ x) (λn s'=>∃ i σ' H',Inv (Zeq X (Zd6 own fr) scope cl s3 (upd H2 s2.heap.objs.size (.lst [])) fp) [] σ' H' s'/\tn i s'.heap/\(∀ b ∈ fp,H' b = none)/\W i n σ' H') ?_ m0
   ⟨0,_,_,I4,st4,λb hb=>(f3 b hb).1,w0⟩
  rintro n s5 ⟨i,σ5,H5,I5,st5,fr5,w5⟩;rcases turn i n σ5 H5 w5 with ⟨stop,qn⟩ | ⟨go,step⟩
  .refine thn (T.done (Zeq X (Zd6 own fr) scope cl s3 (upd H2 s2.heap.objs.size (.lst [])) fp) rfl rfl rfl hc i [] s5 σ5 H5 _ I5 (stat fr5) st5 stop) λr s6 ⟨hr,I6⟩=>?_;subst hr;have I7:Inv X pins σ H5 s6:=I3'.call' (ch:=fp) I6.os I6.base I6.hok I6.bare λb hb=>⟨(f3 b hb).2.2.2.1,(f3 b hb).2.1,(f3 b hb).2.2.2.2.1,(f3 b hb).2.2.2.2.2⟩
   obtain ⟨m6,hn6,_⟩:=I6.loc;refine hRR _ _ s6 H5 I7 qn ⟨m6,hn6⟩ (Jby I3'.lt) (λx c e=>?_) (λp hp=>?_) I3'.sz I6.free
   .obtain ⟨v,z⟩:=I3'.cell x c e;exact Ja6 z.lt
   .exact Ja6 (Jak (I3'.pin p hp).1)
  .refine thn (T.item (Zeq X (Zd6 own fr) scope cl s3 (upd H2 s2.heap.objs.size (.lst [])) fp) rfl rfl rfl hc i [] s5 σ5 H5 _ I5 (stat fr5) st5 go) λr s6 ⟨u,hr,h6⟩=>?_;subst hr;refine thn h6 λ_ s7 ⟨x,H7,I7,r7,y7,st7,fr7⟩=>?_;have I7':=I7.pinned (stat fr7) (T.obj _ _ st7);refine thn (hg _ s7 σ5 H7 x u _ I7' r7 (step x H7 y7)) λ_ s8 ⟨σ8,H8,I8,q8⟩=>?_;have again:∀ {sA:Shared} {σA:St} {HA:Hp} {m':Nat},Inv (Zeq X (Zd6 own fr) scope cl s3 (upd H2 s2.heap.objs.size (.lst [])) fp) ([] ++ Zhd fp s7.heap) σA HA sA->m' < n->W (i + 1) m' σA HA->
     ∃ m,m < n/\∃ i σ' H',Inv (Zeq X (Zd6 own fr) scope cl s3 (upd H2 s2.heap.objs.size (.lst [])) fp) [] σ' H' sA/\tn i sA.heap/\(∀ b ∈ fp,H' b = none)/\W i m σ' H':=λ{sA σA HA m'} IA hm wA=>by
    refine ⟨m',hm,i + 1,σA,HA,IA.unpinned,T.keep _ _ _ st7 λb hb o e=>(IA.pin (b,o) (Ja2 _ (Ja2 _ (Zca hb e)))).1,λb hb=>?_,wA⟩;obtain ⟨o,e,d⟩:=T.obj _ _ st7 b hb;exact (IA.pin (b,o) (Ja2 _ (Ja2 _ (Zca hb e)))).2.1
   refine thn (hi2 _ s8 σ8 H8 _ I8 q8) λv s9 h9=>thn h9 λitv s10 h10=>?_;obtain ⟨it2,fp2,tn2,J2,H10,e,I10,T2,st10,f10,W2,⟨m2,w2⟩,turn2⟩:=h10;subst e;have stat2:∀ {H':Hp},(∀ b ∈ fp2,H' b = none)->∀ b ∈ fp2,FpOk (Zeq X (Zd6 own fr) scope cl s3 (upd H2 s2.heap.objs.size (.lst [])) fp) ([] ++ Zhd fp s7.heap) H' b:=λhn b hb=>⟨hn b hb,(f10 b hb).2⟩
   have loop2:codeAny (model X.prog X.w) X.A (.compLoop (two elt tg iter t2 i2 scope pos) 1 (.ref it2) (.ref s2.heap.objs.size) (Zeq X (Zd6 own fr) scope cl s3 (upd H2 s2.heap.objs.size (.lst [])) fp).env)
     (λr s₆=>r = .ok .next/\∃ m,m < n/\∃ i σ' H',Inv (Zeq X (Zd6 own fr) scope cl s3 (upd H2 s2.heap.objs.size (.lst [])) fp) [] σ' H' s₆/\tn i s₆.heap/\(∀ b ∈ fp,H' b = none)/\W i m σ' H') s10:=by
    refine Zqs (λn2 s'=>∃ j σ' H',Inv (Zeq X (Zd6 own fr) scope cl s3 (upd H2 s2.heap.objs.size (.lst [])) fp) ([] ++ Zhd fp s7.heap) σ' H' s'/\tn2 j s'.heap/\(∀ b ∈ fp2,H' b = none)/\W2 j n2 σ' H') ?_ m2 ⟨0,σ8,H10,I10,st10,λb hb=>(f10 b hb).1,w2⟩;rintro n2 s11 ⟨j,σ11,H11,I11,st11,fr11,w11⟩;rcases turn2 j n2 σ11 H11 w11 with ⟨stop,m',hm,wn⟩ | ⟨go,step2⟩
    .refine thn (T2.done (Zeq X (Zd6 own fr) scope cl s3 (upd H2 s2.heap.objs.size (.lst [])) fp) rfl rfl rfl hc j _ s11 σ11 H11 _ I11 (stat2 fr11) st11 stop) λr s12 ⟨hr,I12⟩=>?_;subst hr;exact ⟨rfl,again I12 hm wn⟩
    .refine thn (T2.item (Zeq X (Zd6 own fr) scope cl s3 (upd H2 s2.heap.objs.size (.lst [])) fp) rfl rfl rfl hc j _ s11 σ11 H11 _ I11 (stat2 fr11) st11 go) λr s12 ⟨u2,hr,h12⟩=>?_;subst hr;refine thn h12 λ_ s13 ⟨y,H13,I13,r13,y13,st13,fr13⟩=>?_;have I13':=I13.pinned (stat2 fr13) (T2.obj _ _ st13);refine thn (hg2 _ s13 σ11 H13 y u2 _ I13' r13 (step2 y H13 y13)) λ_ s14 ⟨σ14,H14,I14,q14⟩=>?_;refine thn (he _ s14 σ14 H14 _ I14 q14) λz s15 ⟨vz,H15,I15,r15,vs,hvs,hlen,m2',hm2,w15⟩=>?_;refine thn (Zb1 (X:=Zeq X (Zd6 own fr) scope cl s3 (upd H2 s2.heap.objs.size (.lst [])) fp) _ s15 σ14 H15 (.ref s2.heap.objs.size) [vz] (.ref s2.heap.objs.size) [z] (λ_ HB=>W2 (j + 1) m2' σ14 HB) I15 rfl (.cons r15 .nil) ⟨_,vs,vz,rfl,rfl,hvs,hlen,w15⟩) λ_ s16 ⟨_,H16,I16,_,w16⟩=>?_;refine ⟨m2',hm2,j + 1,σ14,H16,I16.unpinned,T2.keep _ _ _ st13 λb hb o e=>(I16.pin (b,o) (Ja2 _ (Ja2 _ (Zca hb e)))).1,λb hb=>?_,w16⟩;obtain ⟨o,e,d⟩:=T2.obj _ _ st13 b hb;exact (I16.pin (b,o) (Ja2 _ (Ja2 _ (Zca hb e)))).2.1
   exact Zpc loop2 (T2.self _ 0 _ _ _ st10 loop2)
 exact codeAny_compStart_list loop (T.self _ 0 _ _ _ st4 loop)
theorem Zs0 (hc:X.calm = true) (B:BlScope X scope own fr) (hi:PI X tg iter wi)
  (hb:∀ cl s H fp,PG (Zeq X (Zd6 own fr) scope cl s H fp) tg g/\PI (Zeq X (Zd6 own fr) scope cl s H fp) t2 i2 wi2/\PG (Zeq X (Zd6 own fr) scope cl s H fp) t2 g2/\PE (Zeq X (Zd6 own fr) scope cl s H fp) elt te)
  (hs2:∀ env x,foldedSetIterable i2 env x = pure x:=by intro _ _; rfl)
  (hs:∀ x,foldedSetIterable iter X.env x = pure x:=by intro _; rfl):
  PE X (two elt tg iter t2 i2 scope pos) (tComp2 own.length fr wi g wi2 g2 te):=by
 intro pins s σ H Q I h;obtain ⟨cl,hclos,hcl,hcl2⟩:=Zkj (scope:=scope) (env:=X.env) λy hy hf=>I.ok.has y.1 (B.free y hy hf);rw [eval_ListComp];refine Jd8 (use:=none) rfl hs hclos B.kind B.loc (thn (hi pins s σ H _ I h) λv s1 h1=>thn h1 λitv s2 h2=>?_);obtain ⟨it,fp,tn,J,H2,e,I2,T,st2,f2,q⟩:=h2;subst e;refine Zro (RR:=λacc C=>compPost (model X.prog X.w) X.A X.xe none (EP X pins σ Q) acc C) (Q:=Q) hc B hs2 hb hcl hcl2 I2 T st2 f2 q ?_;intro D C s' H' I' hq hn n1 n2 n3 n4 n5;obtain ⟨m,hn⟩:=hn;refine ⟨m,hn,λh' hs'=>⟨.ref D,H',I'.turned (it:=C) (t':=s'.toks) (λb o hb e=>SameBut.get hs' b o hb e) n5 (Jcg (Jcg n1)) (.inr n4) n2 n3,rfl,hq⟩⟩
end
end L2
namespace L3
open L2
open Lean.Grind
def Zp (n:Nat):Type:=Fin n
instance {n:Nat} [NeZero n]:CommRing (Zp n):=inferInstanceAs (CommRing (Fin n))
class PrimeN (n:Nat):Prop where
 gt:1 < n
 inv:∀ r:Nat,0 < r->r < n->∃ k,k < n/\k * r % n = 1
instance {n:Nat} [h:PrimeN n]:NeZero n:=⟨by have:=h.gt; omega⟩
section
variable {n:Nat} [hn:PrimeN n]
theorem Zuh (a:Zp n) (h:a ≠ 0):∃ b:Zp n,a * b = 1:=by
 have h0:0 < (show Fin n from a).val:=by
  rcases Nat.eq_zero_or_pos (show Fin n from a).val with z | z
  .exact absurd (show a = 0 from Fin.ext (by rw [z]; rfl)) h
  .exact z
 obtain ⟨k,hk,e⟩:=hn.inv _ h0 (show Fin n from a).isLt;refine ⟨(⟨k,hk⟩:Fin n),?_⟩;apply Fin.ext;show ((show Fin n from a).val * k) % n = 1 % n;rw [Je3,e,Nat.mod_eq_of_lt hn.gt]
open Classical in
noncomputable def zinv (a:Zp n):Zp n:=if h:a ≠ 0 then Classical.choose (Zuh a h) else 0
theorem Zho {a:Zp n} (h:a ≠ 0):a * zinv a = 1:=by
 unfold zinv;rw [dif_pos h];exact Jb5 (Zuh a h)
theorem Zh0:zinv (0:Zp n) = 0:=by
 unfold zinv;rw [dif_neg (by simp)]
theorem Zhz:(0:Zp n) ≠ 1:=λz=>by
 have:=Jdz (λx:Fin n=>x.val) z;have h1:(0:Nat) % n = 1 % n:=this;rw [Nat.zero_mod,Nat.mod_eq_of_lt hn.gt] at h1;omega
theorem Zo2 {a b c:Zp n} (h1:a * b = 1) (h2:a * c = 1):b = c:=by
 have:b = b * (a * c):=by rw [h2]; grind
 rw [this]
 grind
theorem Zo3 (a:Zp n):zinv (zinv a) = a:=by
 by_cases h:a = 0
 .rw [h,Zh0,Zh0]
 .have h1:=Zho h;have h2:zinv a ≠ 0:=λz=>by
   rw [z] at h1;exact Zhz (by rw [<- h1]; grind)
  exact Zo2 (Zho h2) (by rw [<- h1]; grind)
theorem Zr8:zinv (1:Zp n) = 1:=Zo2 (Zho (λz=>Zhz z.symm)) (by grind)
noncomputable instance:Inv (Zp n):=⟨zinv⟩
noncomputable instance:Div (Zp n):=⟨λa b=>a * zinv b⟩
noncomputable def zpw (a:Zp n):Int->Zp n
 | .ofNat k=>a ^ k
 | .negSucc k=>zinv (a ^ (k + 1))
noncomputable instance:HPow (Zp n) Int (Zp n):=⟨zpw⟩
noncomputable instance:Field (Zp n) where
 div_eq_mul_inv:=λa b=>rfl
 zero_ne_one:=Zhz
 inv_zero:=Zh0
 mul_inv_cancel:=λh=>Zho h
 zpow_zero:=λa=>Semiring.pow_zero a
 zpow_succ:=λa k=>Semiring.pow_succ a k
 zpow_neg:=λa k=>by
  match k with
  | .ofNat 0=>exact (show a ^ (0:Nat) = zinv (a ^ (0:Nat)) by rw [Semiring.pow_zero,Zr8])
  | .ofNat (m + 1)=>rfl
  | .negSucc m=>exact (Zo3 (a ^ (m + 1))).symm
end
section
variable {F:Type} [Field F]
noncomputable def ic (z:Int):F:=(Ring.intCast:IntCast F).intCast z
theorem Znw (x y:Int):(ic (x + y):F) = ic x + ic y:=Ring.intCast_add x y
theorem Zra (x y:Int):(ic (x - y):F) = ic x - ic y:=Ring.intCast_sub x y
theorem Zcf (x y:Int):(ic (x * y):F) = ic x * ic y:=Ring.intCast_mul x y
theorem Zrb (x:Int):(ic (-x):F) = -ic x:=Ring.intCast_neg x
theorem Zev:(ic 0:F) = 0:=Ring.intCast_zero
theorem Zeo:(ic 1:F) = 1:=Ring.intCast_one
end
def Rz (p z:Int):Prop:=p = 0\/(0<=z/\z < p)
structure FdOk (p:Int) (F:Type) [Field F]:Prop where
 z0:∀ z:Int,Rz p z->(ic z:F) = 0->z = 0
 md:p ≠ 0->(ic p:F) = 0
theorem fd_zero:FdOk 0 Rat:=⟨λz _ h=>by
 have h2:(z:Rat) = ((0:Int):Rat):=h;exact Rat.intCast_inj.mp h2,λh=>absurd rfl h⟩
theorem Zug {n:Nat} [PrimeN n] (k:Nat):(show Fin n from (ic ((k:Nat):Int):Zp n)).val = k % n:=by
 have:(ic ((k:Nat):Int):Zp n) = (Semiring.natCast:NatCast (Zp n)).natCast k:=Ring.intCast_natCast k;rw [this];rfl
theorem Zt2 {n:Nat} [hn:PrimeN n]:FdOk n (Zp n):=by
 refine ⟨λz hz h=>?_,λ_=>?_⟩
 .have hz:0<=z/\z < n:=hz.resolve_left (by have:=hn.gt; omega);obtain ⟨k,rfl⟩:=Int.eq_ofNat_of_zero_le hz.1;have h2:=Zug (n:=n) k;rw [h,Nat.mod_eq_of_lt (by omega)] at h2;have h3:0 % n = k:=h2;rw [Nat.zero_mod] at h3;rw [<- h3];rfl
 .apply Fin.ext;have h2:=Zug (n:=n) n;rw [Nat.mod_self] at h2;refine h2.trans ?_;show 0 = 0 % n;rw [Nat.zero_mod]
noncomputable def nm {F:Type} [Field F] (x:Int × Int):F:=ic x.1 / ic x.2
section
variable {p:Int} {F:Type} [Field F]
theorem Zlx {a b c:F} (h:b ≠ 0) (e:c * b = a):a / b = c:=by grind
theorem FdOk.modF (hF:FdOk p F) (hp:p ≠ 0) (z:Int):(ic (z % p):F) = ic z:=by
 have e:z = z % p + p * (z / p):=(Jek z p).symm;have e2:(ic z:F) = ic (z % p) + ic p * ic (z / p):=by
  rw [<- Zcf,<- Znw,<- e]
 rw [e2,hF.md hp]
 grind
theorem FdOk.ne0 (hF:FdOk p F) {z:Int} (hz:Rz p z) (h:z ≠ 0):(ic z:F) ≠ 0:=λe=>h (hF.z0 z hz e)
theorem FdOk.bot (hF:FdOk p F) {x:Int × Int} (h:Isn p x):(ic x.2:F) ≠ 0:=by
 rcases h with ⟨hp,h1,_⟩ | ⟨_,_,_,h1⟩
 .exact hF.ne0 (.inl hp) (by omega)
 .rw [h1,Zeo];exact λz=>Field.zero_ne_one (α:=F) z.symm
theorem FdOk.nrmF (hF:FdOk p F) (hp:p = 0) {a b:Int} (hb:0 < b):(nm (nrm a b):F) = ic a / ic b:=by
 have g0:(ic ((Int.gcd a b:Nat):Int):F) ≠ 0:=hF.ne0 (.inl hp) (by have:=Zdi (a:=a) hb; omega);have b0:(ic b:F) ≠ 0:=hF.ne0 (.inl hp) (by omega);have e1:(ic (nrm a b).1:F) * ic ((Int.gcd a b:Nat):Int) = ic a:=by rw [<- Zcf,Zqi]
 have e2:(ic (nrm a b).2:F) * ic ((Int.gcd a b:Nat):Int) = ic b:=by rw [<- Zcf,Zmw]
 have c0:(ic (nrm a b).2:F) ≠ 0:=λz=>b0 (by rw [<- e2,z]; grind);unfold nm;rw [<- e1,<- e2];generalize (ic (nrm a b).1:F) = x at *;generalize (ic (nrm a b).2:F) = y at *;generalize (ic ((Int.gcd a b:Nat):Int):F) = g at *;exact Zlx c0 (by grind)
theorem FdOk.one (hF:FdOk p F) (z:Int):(nm (z,1):F) = ic z:=by
 unfold nm;rw [Zeo];exact Zlx (λz=>Field.zero_ne_one (α:=F) z.symm) (by grind)
theorem FdOk.plus (hF:FdOk p F) {x y:Int × Int} (hx:Isn p x) (hy:Isn p y):(nm (Zc5 p x y):F) = nm x + nm y:=by
 have bx:=hF.bot hx;have by':=hF.bot hy
 unfold Zc5;split
 .rename_i hp
  rw [hF.nrmF hp (Jc2 hx.pos hy.pos),Znw,Zcf,Zcf,Zcf];unfold nm
  grind
 .rename_i hp
  rw [hF.one,hF.modF hp,Znw];rcases hx with ⟨z,_⟩ | ⟨_,_,_,h1⟩
  .exact absurd z hp
  .rcases hy with ⟨z,_⟩ | ⟨_,_,_,h2⟩
   .exact absurd z hp
   .unfold nm;rw [h1,h2,Zeo]
    grind
theorem FdOk.times (hF:FdOk p F) {x y:Int × Int} (hx:Isn p x) (hy:Isn p y):(nm (Zba p x y):F) = nm x * nm y:=by
 have bx:=hF.bot hx;have by':=hF.bot hy
 unfold Zba;split
 .rename_i hp
  rw [hF.nrmF hp (Jc2 hx.pos hy.pos),Zcf,Zcf];unfold nm
  grind
 .rename_i hp
  rw [hF.one,hF.modF hp,Zcf];rcases hx with ⟨z,_⟩ | ⟨_,_,_,h1⟩
  .exact absurd z hp
  .rcases hy with ⟨z,_⟩ | ⟨_,_,_,h2⟩
   .exact absurd z hp
   .unfold nm;rw [h1,h2,Zeo]
    grind
theorem FdOk.intF (hF:FdOk p F) (k:Int):(nm (Zgc p k):F) = ic k:=by
 unfold Zgc;split
 .exact hF.one k
 .rename_i hp
  rw [hF.one,hF.modF hp]
theorem FdOk.inj (hF:FdOk p F) {x y:Int × Int} (hx:Isn p x) (hy:Isn p y) (e:(nm x:F) = nm y):x = y:=by
 have bx:=hF.bot hx;have by':=hF.bot hy
 have e2:(ic x.1:F) * ic y.2 = ic y.1 * ic x.2:=by unfold nm at e; grind
 rw [<- Zcf,<- Zcf] at e2;have e3:(ic (x.1 * y.2 - y.1 * x.2):F) = 0:=by rw [Zra,e2]; grind
 by_cases hp:p = 0
 .have h:=hF.z0 _ (.inl hp) e3;rcases hx with ⟨_,lx⟩ | ⟨z,_⟩
  .rcases hy with ⟨_,ly⟩ | ⟨z,_⟩
   .exact Zor lx ly (by omega)
   .omega
  .omega
 .rcases hx with ⟨z,_⟩ | ⟨pp,x0,x1,h1⟩
  .exact absurd z hp
  .rcases hy with ⟨z,_⟩ | ⟨_,y0,y1,h2⟩
   .exact absurd z hp
   .rw [h1,h2,Int.mul_one,Int.mul_one] at e3;rw [<- hF.modF hp] at e3;have h:=hF.z0 _ (.inr ⟨Jbr _ hp,Jbg _ pp⟩) e3;have h3:x.1 = y.1:=by
     have:=Int.emod_emod_of_dvd (x.1 - y.1) (Int.dvd_refl p);by_cases q:y.1<=x.1
     .rw [Jcs (by omega) (by omega)] at h;omega
     .have h4:(x.1 - y.1 + p) % p = 0:=by rw [Int.add_emod_right]; exact h
      rw [Jcs (by omega) (by omega)] at h4;omega
    exact Jfh h3 (by rw [h1,h2])
end
end L3
namespace L3
open Lean.Grind
section
variable {F:Type} [Field F]
noncomputable def sm:Nat->(Nat->F)->F
 | 0,_=>0
 | n + 1,f=>sm n f + f n
theorem Zaf:∀ {n:Nat} {f g:Nat->F},(∀ i,i < n->f i = g i)->sm n f = sm n g
 | 0,_,_,_=>rfl
 | n + 1,f,g,h=>by
  show sm n f + f n = sm n g + g n;rw [Zaf (n:=n) λi hi=>h i (Zfw hi),h n (by omega)]
theorem Zdb:∀ n:Nat,sm n (λ_=>(0:F)) = 0
 | 0=>rfl
 | n + 1=>by
  show sm n (λ_=>(0:F)) + 0 = 0;rw [Zdb n]
  grind
theorem Zjc:∀ (n:Nat) (f g:Nat->F),sm n (λi=>f i + g i) = sm n f + sm n g
 | 0,_,_=>by show (0:F) = 0 + 0; grind
 | n + 1,f,g=>by
  show sm n (λi=>f i + g i) + (f n + g n) = (sm n f + f n) + (sm n g + g n);rw [Zjc n]
  grind
theorem Zde (a:F):∀ (n:Nat) (f:Nat->F),sm n (λi=>a * f i) = a * sm n f
 | 0,_=>by show (0:F) = a * 0; grind
 | n + 1,f=>by
  show sm n (λi=>a * f i) + a * f n = a * (sm n f + f n);rw [Zde a n]
  grind
theorem Ze5 (a:F) (n:Nat) (f:Nat->F):sm n (λi=>f i * a) = sm n f * a:=by
 rw [show (λi=>f i * a) = λi=>a * f i from funext λi=>by grind,Zde]
 grind
theorem Zer:∀ (n m:Nat) (f:Nat->Nat->F),sm n (λi=>sm m (λj=>f i j)) = sm m (λj=>sm n (λi=>f i j))
 | 0,m,f=>(Zdb m).symm
 | n + 1,m,f=>by
  show sm n (λi=>sm m (λj=>f i j)) + sm m (λj=>f n j) = sm m (λj=>sm n (λi=>f i j) + f n j);rw [Zer n m,Zjc]
theorem Zg3:∀ {n k:Nat} (f:Nat->F),k < n->sm n (λi=>if i = k then f i else 0) = f k
 | 0,_,_,h=>absurd h (Nat.not_lt_zero _)
 | n + 1,k,f,h=>by
  show sm n (λi=>if i = k then f i else 0) + (if n = k then f n else 0) = f k;by_cases e:n = k
  .subst e;rw [if_pos rfl,Zaf (g:=λ_=>0) (λi hi=>by rw [if_neg (by omega)]),Zdb]
   grind
  .rw [if_neg e,Zg3 f (by omega)]
   grind
theorem Zum {n k:Nat} (f:Nat->F) (h:k < n):sm n (λi=>(if i = k then 1 else 0) * f i) = f k:=by
 rw [<- Zg3 f h];exact Zaf λi _=>by split <;> grind
theorem Zdu {n k:Nat} (f:Nat->F) (h:k < n):sm n (λi=>f i * (if i = k then 1 else 0)) = f k:=by
 rw [<- Zg3 f h];exact Zaf λi _=>by split <;> grind
theorem Zgg {n k:Nat} (f:Nat->F) (h:k < n):sm n (λi=>f i * (if k = i then 1 else 0)) = f k:=by
 rw [<- Zg3 f h];exact Zaf λi _=>by
  by_cases e:i = k
  .rw [if_pos e,if_pos e.symm]; grind
  .rw [if_neg e,if_neg (λz=>e z.symm)]; grind
def sk (k j:Nat):Nat:=if j < k then j else j + 1
theorem Zni:∀ {n k:Nat} (f:Nat->F),k<=n->sm (n + 1) f = f k + sm n (λj=>f (sk k j))
 | n,k,f,h=>by
  by_cases e:k = n
  .subst e;show sm k f + f k = _;rw [Zaf (n:=k) (f:=f) (g:=λj=>f (sk k j)) λi hi=>by unfold sk; rw [if_pos hi]]
   grind
  .cases n with
   | zero=>omega
   | succ n=>
    show sm (n + 1) f + f (n + 1) = f k + (sm n (λj=>f (sk k j)) + f (sk k n));rw [Zni (n:=n) (k:=k) f (oz53 h e)];have:sk k n = n + 1:=by unfold sk; rw [if_neg (by omega)]
    rw [this]
    grind
theorem Znt:∀ (r s:Nat) (Y:Nat->Nat->F),r < s->∃ v:Nat->F,(∃ j,j < s/\v j ≠ 0)/\∀ i,i < r->sm s (λj=>Y i j * v j) = 0
 | 0,s,Y,h=>⟨λ_=>1,⟨0,h,λz=>Field.zero_ne_one (α:=F) z.symm⟩,λi hi=>absurd hi (Nat.not_lt_zero _)⟩
 | r + 1,s,Y,h=>by
  by_cases hz:∀ j,j < s->Y r j = 0
  .obtain ⟨v,hv,he⟩:=Znt r s Y (by omega);refine ⟨v,hv,λi hi=>?_⟩;by_cases e:i = r
   .subst e;rw [Zaf (g:=λ_=>0) λj hj=>by rw [hz j hj]; grind,Zdb]
   .exact he i (Zmp hi e)
  .obtain ⟨k,hk⟩:∃ k,k < s/\Y r k ≠ 0:=by
    apply Ja3;intro z;exact hz λj hj=>Ja3 λq=>z ⟨j,hj,q⟩
   obtain ⟨hk,hy⟩:=hk;obtain ⟨s',rfl⟩:∃ s',s = s' + 1:=⟨s - 1,by omega⟩
   obtain ⟨v',⟨j0,hj0,hv0⟩,he⟩:=Znt r s' (λi j=>Y i (sk k j) - Y i k / Y r k * Y r (sk k j)) (by omega);obtain ⟨v,hvk,hv'⟩:∃ v:Nat->F,v k = -(sm s' (λj=>Y r (sk k j) * v' j)) / Y r k/\∀ j,v (sk k j) = v' j:=by
    refine ⟨λi=>if i = k then -(sm s' (λj=>Y r (sk k j) * v' j)) / Y r k else v' (if i < k then i else i - 1),if_pos rfl,λj=>?_⟩;have h1:sk k j ≠ k:=by unfold sk; split <;> omega
    show (if sk k j = k then _ else v' (if sk k j < k then sk k j else sk k j - 1)) = v' j;rw [if_neg h1];congr 1;unfold sk;by_cases q:j < k
    .rw [if_pos q,if_pos q]
    .rw [if_neg q,if_neg (by omega)];omega
   refine ⟨v,⟨sk k j0,by unfold sk; split <;> omega,by rw [hv']; exact hv0⟩,λi hi=>?_⟩;rw [Zni (k:=k) _ (by omega),hvk];rw [Zaf (n:=s') (f:=λj=>Y i (sk k j) * v (sk k j)) (g:=λj=>Y i (sk k j) * v' j) λj hj=>by rw [hv']];by_cases e:i = r
   .subst e;generalize sm s' (λj=>Y i (sk k j) * v' j) = S
    grind
   .have h2:=he i (Zmp hi e);have h3:sm s' (λj=>(Y i (sk k j) - Y i k / Y r k * Y r (sk k j)) * v' j) = sm s' (λj=>Y i (sk k j) * v' j) - Y i k / Y r k * sm s' (λj=>Y r (sk k j) * v' j):=by
     rw [<- Zde];have:∀ (f g:Nat->F),sm s' (λj=>f j - g j) = sm s' f - sm s' g:=λf g=>by
      have e1:=Zjc s' (λj=>f j - g j) g;rw [show (λj=>f j - g j + g j) = f from funext λj=>by grind] at e1;rw [e1]
      grind
     rw [<- this];exact Zaf λj _=>by grind
    rw [h3] at h2;generalize sm s' (λj=>Y i (sk k j) * v' j) = S1 at *;generalize sm s' (λj=>Y r (sk k j) * v' j) = S2 at *
    grind
abbrev del (i k:Nat):F:=if i = k then 1 else 0
theorem dim_le {r s:Nat} {X Y:Nat->Nat->F} (h:∀ i k,i < s->k < s->sm r (λt=>X i t * Y t k) = del i k):s<=r:=by
 apply Ja3;intro z;obtain ⟨v,⟨j,hj,hv⟩,he⟩:=Znt r s Y (by omega);apply hv;have h1:sm s (λk=>sm r (λt=>X j t * Y t k) * v k) = v j:=by
  rw [Zaf (g:=λk=>del j k * v k) λk hk=>by rw [h j k hj hk]];rw [show (λk=>del j k * v k) = λk=>v k * (if j = k then 1 else 0) from funext λk=>by grind];exact Zgg v hj
 rw [<- h1];rw [Zaf (g:=λk=>sm r (λt=>X j t * Y t k * v k)) λk _=>by rw [Ze5],Zer];rw [Zaf (g:=λ_=>0) λt ht=>?_,Zdb];rw [show (λk=>X j t * Y t k * v k) = λk=>X j t * (Y t k * v k) from funext λk=>by grind,Zde,he t ht]
 grind
structure Rk (A:Nat->Nat->F) (m n r:Nat):Prop where
 fac:∃ B C:Nat->Nat->F,∀ i j,i < m->j < n->A i j = sm r λk=>B i k * C k j
 piv:∃ P Q:Nat->Nat->F,∀ i k,i < r->k < r->sm m (λa=>P i a * sm n λb=>A a b * Q b k) = del i k
theorem Zh3 {m n r s:Nat} {A B C P Q:Nat->Nat->F} (hf:∀ i j,i < m->j < n->A i j = sm r λk=>B i k * C k j) (hp:∀ i k,i < s->k < s->sm m (λa=>P i a * sm n λb=>A a b * Q b k) = del i k):s<=r:=by
 refine dim_le (X:=λi t=>sm m λa=>P i a * B a t) (Y:=λt k=>sm n λb=>C t b * Q b k) λi k hi hk=>?_;rw [<- hp i k hi hk];have e1:∀ a,a < m->(sm n λb=>A a b * Q b k) = sm r λt=>B a t * sm n λb=>C t b * Q b k:=λa ha=>by
  rw [Zaf (g:=λb=>sm r λt=>B a t * (C t b * Q b k)) λb hb=>?_,Zer]
  .exact Zaf λt _=>Zde _ _ _
  .rw [hf a b ha hb,<- Ze5];exact Zaf λt _=>by grind
 rw [Zaf (n:=m) (g:=λa=>sm r λt=>P i a * B a t * sm n λb=>C t b * Q b k) λa ha=>?_,Zer]
 .exact Zaf λt _=>by rw [Ze5]
 .rw [e1 a ha,<- Zde];exact Zaf λt _=>by grind
theorem Rk.uniq {A:Nat->Nat->F} {m n r s:Nat} (h:Rk A m n r) (h':Rk A m n s):r = s:=by
 obtain ⟨B,C,hf⟩:=h.fac;obtain ⟨P,Q,hp⟩:=h.piv;obtain ⟨B',C',hf'⟩:=h'.fac;obtain ⟨P',Q',hp'⟩:=h'.piv;have:=Zh3 hf hp';have:=Zh3 hf' hp;omega
theorem Rk.congr {A B:Nat->Nat->F} {m n r:Nat} (h:Rk A m n r) (e:∀ i j,i < m->j < n->A i j = B i j):Rk B m n r:=by
 obtain ⟨X,Y,hf⟩:=h.fac;obtain ⟨P,Q,hp⟩:=h.piv;refine ⟨⟨X,Y,λi j hi hj=>by rw [<- e i j hi hj]; exact hf i j hi hj⟩,⟨P,Q,λi k hi hk=>?_⟩⟩;rw [<- hp i k hi hk];exact Zaf λa ha=>by rw [Zaf (n:=n) λb hb=>by rw [<- e a b ha hb]]
abbrev mm (n:Nat) (A B:Nat->Nat->F):Nat->Nat->F:=λi j=>sm n λk=>A i k * B k j
theorem Zj8 (n l:Nat) (A B C:Nat->Nat->F) (i j:Nat):mm l (mm n A B) C i j = mm n A (mm l B C) i j:=by
 show sm l (λk=>sm n (λt=>A i t * B t k) * C k j) = sm n λt=>A i t * sm l λk=>B t k * C k j;rw [Zaf (n:=l) (g:=λk=>sm n λt=>A i t * (B t k * C k j)) λk _=>?_,Zer]
 .exact Zaf λt _=>Zde _ _ _
 .rw [<- Ze5];exact Zaf λt _=>by grind
theorem Rk.mul_l {A B:Nat->Nat->F} {m n l r s:Nat} (h:Rk A m n r) (h':Rk (mm n A B) m l s):s<=r:=by
 obtain ⟨X,Y,hf⟩:=h.fac;obtain ⟨P,Q,hp⟩:=h'.piv;refine Zh3 (A:=mm n A B) (B:=X) (C:=mm n Y B) (λi j hi hj=>?_) hp;show mm n A B i j = mm r X (mm n Y B) i j;rw [<- Zj8];exact Zaf λk hk=>by rw [hf i k hi hk]
theorem Rk.of_left {A P:Nat->Nat->F} {m n:Nat} (e:∀ i j,i < n->j < n->mm m P A i j = del i j):Rk A m n n:=by
 refine ⟨⟨A,λk j=>del k j,λi j hi hj=>(Zdu _ hj).symm⟩,⟨P,λb k=>del b k,λi k hi hk=>?_⟩⟩;rw [<- e i k hi hk];exact Zaf λa _=>by rw [Zdu _ hk]
abbrev zv:Nat->F:=λ_=>0
inductive Sp (S:(Nat->F)->Prop):(Nat->F)->Prop
 | mem {v:Nat->F}:S v->Sp S v
 | zero:Sp S zv
 | comb {u v:Nat->F} (a b:F):Sp S u->Sp S v->Sp S λj=>a * u j + b * v j
theorem Sp.trans {S T:(Nat->F)->Prop} {v:Nat->F} (h:Sp S v) (k:∀ u,S u->Sp T u):Sp T v:=by
 induction h with
 | mem h=>exact k _ h
 | zero=>exact .zero
 | comb a b _ _ h1 h2=>exact .comb a b h1 h2
theorem Sp.smul {S:(Nat->F)->Prop} {v:Nat->F} (a:F) (h:Sp S v):Sp S λj=>a * v j:=by
 have:=Sp.comb a 0 h Sp.zero;rwa [show (λj=>a * v j + 0 * (zv j:F)) = λj=>a * v j from funext λj=>by grind] at this
abbrev SpL (L:List (Nat->F)) (v:Nat->F):Prop:=Sp (· ∈ L) v
structure SpEq (L L':List (Nat->F)):Prop where
 le:∀ v ∈ L,SpL L' v
 ge:∀ v ∈ L',SpL L v
theorem SpEq.refl (L:List (Nat->F)):SpEq L L:=⟨λ_ h=>.mem h,λ_ h=>.mem h⟩
theorem SpEq.symm {L L':List (Nat->F)} (h:SpEq L L'):SpEq L' L:=⟨h.ge,h.le⟩
theorem SpEq.trans {L L' L'':List (Nat->F)} (h:SpEq L L') (h':SpEq L' L''):SpEq L L'':=⟨λv hv=>(h.le v hv).trans λu hu=>h'.le u hu,λv hv=>(h'.ge v hv).trans λu hu=>h.ge u hu⟩
theorem SpEq.mems {L L':List (Nat->F)} (h:∀ v,v ∈ L ↔ v ∈ L'):SpEq L L':=⟨λv hv=>.mem ((h v).mp hv),λv hv=>.mem ((h v).mpr hv)⟩
abbrev at' (L:List (Nat->F)) (i:Nat):Nat->F:=L.getD i zv
theorem Zbz {L:List (Nat->F)} {i:Nat} (h:i < L.length):at' L i ∈ L:=by
 unfold at';rw [Jac,Jaa h];exact Jaw h
theorem Sp.coef {L:List (Nat->F)} {v:Nat->F} (h:SpL L v):∃ c:Nat->F,∀ j,v j = sm L.length λi=>c i * at' L i j:=by
 induction h with
 | mem h=>
  obtain ⟨i,hi,rfl⟩:=Jas.mp h;refine ⟨λk=>del k i,λj=>?_⟩;rw [Zum (λk=>at' L k j) hi];unfold at';rw [Jac,Jaa hi];rfl
 | zero=>exact ⟨λ_=>0,λj=>by rw [Zaf (g:=λ_=>0) λi _=>by grind,Zdb]⟩
 | comb a b _ _ h1 h2=>
  obtain ⟨c,hc⟩:=h1;obtain ⟨d,hd⟩:=h2;refine ⟨λi=>a * c i + b * d i,λj=>?_⟩;show a * _ + b * _ = _;rw [hc j,hd j,<- Zde,<- Zde,<- Zjc];exact Zaf λi _=>by grind
structure RR (L:List (Nat->F)) (n r:Nat) (c:Nat->Nat):Prop where
 rl:r<=L.length
 cn:∀ i,i < r->c i < n
 mono:∀ i k,i < k->k < r->c i < c k
 piv:∀ i k,i < r->k < r->at' L i (c k) = del i k
 low:∀ i j,i < r->j < c i->at' L i j = 0
 zer:∀ i j,r<=i->i < L.length->j < n->at' L i j = 0
theorem RR.expand {L:List (Nat->F)} {n r:Nat} {c:Nat->Nat} (R:RR L n r c) {v:Nat->F} (h:SpL L v):∀ j,j < n->v j = sm r λi=>v (c i) * at' L i j:=by
 induction h with
 | mem h=>
  obtain ⟨i,hi,rfl⟩:=Jas.mp h;have e:L[i] = at' L i:=by unfold at'; rw [Jac,Jaa hi]; rfl
  rw [e];intro j hj;by_cases hr:i < r
  .rw [Zaf (g:=λk=>at' L k j * (if i = k then 1 else 0)) λk hk=>by rw [R.piv i k hr hk]; grind,Zgg _ hr]
  .rw [R.zer i j (Zhf hr) hi hj,Zaf (g:=λ_=>0) λk hk=>by rw [R.zer i (c k) (Zhf hr) hi (R.cn k hk)]; grind,Zdb]
 | zero=>exact λj _=>by rw [Zaf (g:=λ_=>0) λi _=>by grind,Zdb]
 | comb a b _ _ h1 h2=>
  intro j hj;show a * _ + b * _ = _;rw [h1 j hj,h2 j hj,<- Zde,<- Zde,<- Zjc];exact Zaf λi _=>by grind
theorem RR.rk {L L':List (Nat->F)} {n r:Nat} {c:Nat->Nat} (R:RR L n r c) (h:SpEq L' L):Rk (λi j=>at' L' i j) L'.length n r:=by
 refine ⟨⟨λi k=>at' L' i (c k),λk j=>at' L k j,λi j hi hj=>R.expand (h.le _ (Zbz hi)) j hj⟩,?_⟩;have hc:∀ k,k < r->∃ d:Nat->F,∀ j,at' L k j = sm L'.length λi=>d i * at' L' i j:=λk hk=>(h.ge _ (Zbz (Ja0 hk R.rl))).coef;refine ⟨λk=>if hk:k < r then Classical.choose (hc k hk) else zv,λb k=>del b (c k),λi k hi hk=>?_⟩;rw [Zaf (g:=λa=>Classical.choose (hc i hi) a * at' L' a (c k)) λa _=>by
  show (if hk:i < r then Classical.choose (hc i hk) else zv) a * sm n (λb=>at' L' a b * (if b = c k then 1 else 0)) = _;rw [dif_pos hi,Zdu _ (R.cn k hk)]]
 rw [<- Jb5 (hc i hi) (c k)];exact R.piv i k hi hk
end
end L3
namespace L3
open L2 Lean.Grind
def gcdL (zs:List Int):Nat:=zs.foldl (λd z=>Int.gcd z d) 0
theorem Zkf:∀ (zs:List Int) (d:Nat),(zs.foldl (λd z=>Int.gcd z d) d) ∣ d/\∀ z ∈ zs,((zs.foldl (λd z=>Int.gcd z d) d:Nat):Int) ∣ z
 | [],d=>⟨Nat.dvd_refl _,λz h=>by simp at h⟩
 | y :: zs,d=>by
  obtain ⟨h1,h2⟩:=Zkf zs (Int.gcd y d);have h3:Int.gcd y d ∣ d:=by have:=Int.gcd_dvd_natAbs_right y d; simpa using this
  refine ⟨Nat.dvd_trans h1 h3,λz hz=>?_⟩;rcases Jb8.mp hz with rfl | hz
  .exact Int.dvd_trans (Int.ofNat_dvd.mpr h1) (Jbv z d)
  .exact h2 z hz
theorem Zke {zs:List Int} {z:Int} (h:z ∈ zs):(gcdL zs:Int) ∣ z:=(Zkf zs 0).2 z h
theorem Zrf (zs:List Int) (i:Nat):gcdL zs ∣ gcdL (zs.take i):=by
 have e:gcdL zs = (zs.drop i).foldl (λd z=>Int.gcd z d) (gcdL (zs.take i)):=by
  unfold gcdL;rw [<- List.foldl_append,List.take_append_drop]
 rw [e];exact (Zkf _ _).1
theorem Zrg {zs:List Int} {i:Nat} {z:Int} (h:zs[i]? = some z):gcdL (zs.take (i + 1)) = Int.gcd z (gcdL (zs.take i)):=by
 rw [Jfe,h];unfold gcdL;rw [List.foldl_append];rfl
theorem Zre {zs:List Int} (h:gcdL zs = 0) {z:Int} (hz:z ∈ zs):z = 0:=by
 have:=Zke hz;rw [h] at this;exact Int.zero_dvd.mp this
noncomputable def Zd0 (p:Int) (zs:List Int):List Int:=if p = 0 then zs.map (· / (gcdL zs:Int)) else zs.map (· % p)
theorem Zse {zs:List Int} (h:gcdL zs = 1):Zd0 0 zs = zs:=by
 unfold Zd0;rw [if_pos rfl,h];have:(λz:Int=>z / ((1:Nat):Int)) = id:=by funext z; simp
 rw [this,List.map_id]
theorem Zh2 {zs:List Int} (h:gcdL zs = 0):Zd0 0 zs = zs:=by
 unfold Zd0;rw [if_pos rfl];have:∀ z ∈ zs,z / (gcdL zs:Int) = id z:=λz hz=>by rw [Zre h hz]; simp
 rw [Jct this,List.map_id]
theorem Zsf {p:Int} {zs:List Int}:(Zd0 p zs).length = zs.length:=by unfold Zd0; split <;> simp
theorem Zny {f:Int->Int} (h:f 0 = 0) (zs:List Int) (j:Nat):(zs.map f).getD j 0 = f (zs.getD j 0):=by
 rw [Jac,Jac,Jad];cases zs[j]? with
 | none=>exact h.symm
 | some z=>rfl
theorem Zty {f:Int->Int->Int} (h:f 0 0 = 0) {xs ys:List Int} (hl:xs.length = ys.length) (j:Nat):(List.zipWith f xs ys).getD j 0 = f (xs.getD j 0) (ys.getD j 0):=by
 rw [Jac,Jac,Jac,List.getElem?_zipWith];by_cases hj:j < xs.length
 .rw [Jaa hj,Jaa (show j < ys.length by exact Ze2 hl hj)];rfl
 .rw [Jaj (Zhf hj),Jaj (Zs6 hl hj)];exact h.symm
theorem Zis {zs:List Int} (j:Nat):zs.getD j 0 ∈ zs\/zs.getD j 0 = 0:=by
 rw [Jac];cases e:zs[j]? with
 | none=>exact .inr rfl
 | some z=>exact .inl (Jae e)
theorem Zmb {p:Int} (zs:List Int) (j:Nat):(Zd0 p zs).getD j 0 = if p = 0 then zs.getD j 0 / (gcdL zs:Int) else zs.getD j 0 % p:=by
 unfold Zd0;split
 .exact Zny (f:=(· / (gcdL zs:Int))) (by simp) zs j
 .exact Zny (f:=(· % p)) (by simp) zs j
theorem Zks {p:Int} {zs:List Int} {j:Nat} (h:zs.getD j 0 = 0):(Zd0 p zs).getD j 0 = 0:=by
 rw [Zmb,h];split <;> simp
def Rw (p:Int) (W:Nat) (zs:List Int):Prop:=zs.length = W/\∀ z ∈ zs,Rz p z
theorem Rw.at {p:Int} {W:Nat} {zs:List Int} (h:Rw p W zs) (h0:0<=p) (j:Nat):Rz p (zs.getD j 0):=by
 rcases Zis (zs:=zs) j with m | e
 .exact h.2 _ m
 .rw [e];rcases Jfc p 0 with h | h | h
  .omega
  .exact .inl h
  .exact .inr ⟨by omega,h⟩
theorem Zps {p:Int} {W:Nat} {zs:List Int} (h0:0<=p) (h:zs.length = W):Rw p W (Zd0 p zs):=by
 refine ⟨by rw [Zsf]; exact h,λz hz=>?_⟩;unfold Zd0 at hz;split at hz
 .exact .inl (by assumption)
 .obtain ⟨y,_,rfl⟩:=Jap.mp hz;exact .inr ⟨Jbr _ (by assumption),Jbg _ (by omega)⟩
def Zjp (row lead:List Int) (k:Nat):List Int:=List.zipWith (λx y=>lead.getD k 0 / (Int.gcd (row.getD k 0) (lead.getD k 0):Int) * x - row.getD k 0 / (Int.gcd (row.getD k 0) (lead.getD k 0):Int) * y) row lead
noncomputable def Zbi (p:Int) (row lead:List Int) (k:Nat):List Int:=if row.getD k 0 = 0 then row else Zd0 p (Zjp row lead k)
theorem Znl {p:Int} {W:Nat} {row lead:List Int} {k:Nat} (h0:0<=p) (h:Rw p W row) (h':Rw p W lead):Rw p W (Zbi p row lead k):=by
 unfold Zbi;split
 .exact h
 .exact Zps h0 (by unfold Zjp; rw [Jd6,h.1,h'.1]; omega)
theorem Znm {row lead:List Int} (hl:row.length = lead.length) (k j:Nat):(Zjp row lead k).getD j 0 = lead.getD k 0 / (Int.gcd (row.getD k 0) (lead.getD k 0):Int) * row.getD j 0 - row.getD k 0 / (Int.gcd (row.getD k 0) (lead.getD k 0):Int) * lead.getD j 0:=by
 unfold Zjp;exact Zty (by simp) hl j
theorem Zoy {p:Int} {row lead:List Int} {k j:Nat} (hl:row.length = lead.length) (h:row.getD j 0 = 0) (h':lead.getD j 0 = 0):(Zbi p row lead k).getD j 0 = 0:=by
 unfold Zbi;split
 .exact h
 .exact Zks (by rw [Znm hl,h,h']; simp)
theorem Zn5 {p:Int} {row lead:List Int} {k:Nat} (hl:row.length = lead.length):(Zbi p row lead k).getD k 0 = 0:=by
 unfold Zbi;split
 .assumption
 .refine Zks ?_;rw [Znm hl];have d1:(Int.gcd (row.getD k 0) (lead.getD k 0):Int) ∣ row.getD k 0:=Jbv ..;have d2:(Int.gcd (row.getD k 0) (lead.getD k 0):Int) ∣ lead.getD k 0:=Jb0 ..;generalize (Int.gcd (row.getD k 0) (lead.getD k 0):Int) = g at *;have e1:=Jck d1;have e2:=Jck d2;generalize row.getD k 0 / g = u at *;generalize lead.getD k 0 / g = v at *;rw [<- e1,<- e2]
  grind
section
variable {p:Int} {F:Type} [Field F]
noncomputable def vz (zs:List Int):Nat->F:=λj=>ic (zs.getD j 0)
theorem Zo1:(1:F) ≠ 0:=λz=>Field.zero_ne_one (α:=F) z.symm
theorem Zo8 (hF:FdOk p F) (zs:List Int):∃ c:F,c ≠ 0/\∀ j,c * vz (Zd0 p zs) j = vz zs j:=by
 by_cases hp:p = 0
 .by_cases hg:gcdL zs = 0
  .subst hp;rw [Zh2 hg];exact ⟨1,Zo1,λj=>by grind⟩
  .refine ⟨ic (gcdL zs:Int),hF.ne0 (.inl hp) (by omega),λj=>?_⟩;unfold vz;rw [Zmb,if_pos hp,<- Zcf,Je8,Jck];rcases Zis (zs:=zs) j with m | e
   .exact Zke m
   .rw [e]; exact Int.dvd_zero _
 .refine ⟨1,Zo1,λj=>?_⟩;unfold vz;rw [Zmb,if_neg hp,hF.modF hp]
  grind
theorem Zgq {W:Nat} {row lead:List Int} {k:Nat} (h0:0<=p) (hF:FdOk p F) (h:Rw p W row) (h':Rw p W lead) (hk:lead.getD k 0 ≠ 0):∃ a b:F,a ≠ 0/\∀ j,vz (Zbi p row lead k) j = a * vz row j + b * vz lead j:=by
 unfold Zbi;split
 .exact ⟨1,0,Zo1,λj=>by grind⟩
 .have hl:row.length = lead.length:=h.1.trans h'.1.symm;obtain ⟨c,hc,e⟩:=Zo8 hF (Zjp row lead k);have d2:(Int.gcd (row.getD k 0) (lead.getD k 0):Int) ∣ lead.getD k 0:=Jb0 ..;have e2:=Jck d2;have l0:(ic (lead.getD k 0):F) ≠ 0:=hF.ne0 (h'.at h0 k) hk;have ek:∀ j,(vz (Zjp row lead k) j:F) = ic (lead.getD k 0 / (Int.gcd (row.getD k 0) (lead.getD k 0):Int)) * vz row j - ic (row.getD k 0 / (Int.gcd (row.getD k 0) (lead.getD k 0):Int)) * vz lead j:=λj=>by
   unfold vz;rw [Znm hl,Zra,Zcf,Zcf]
  generalize (Int.gcd (row.getD k 0) (lead.getD k 0):Int) = g at *;have k0:(ic (lead.getD k 0 / g):F) ≠ 0:=λz=>l0 (by rw [<- e2,Zcf,z]; grind);generalize (ic (lead.getD k 0 / g):F) = u at *;generalize (ic (row.getD k 0 / g):F) = v at *;refine ⟨u / c,-(v / c),by grind,λj=>?_⟩;have e3:=e j;rw [ek j] at e3;generalize (vz (Zd0 p (Zjp row lead k)) j:F) = y at *
  grind
theorem Zmy {Z:List (List Int)} {v:Nat->F} (h:v ∈ Z.map vz):∃ row ∈ Z,v = vz row:=by
 obtain ⟨row,h1,h2⟩:=Jap.mp h;exact ⟨row,h1,h2.symm⟩
theorem Zi8 {W k:Nat} {A B:List (List Int)} {lead:List Int} (h0:0<=p) (hF:FdOk p F) (hA:∀ row ∈ A,Rw p W row) (hB:lead ∈ B) (hL:Rw p W lead) (hk:lead.getD k 0 ≠ 0):
  SpEq (F:=F) ((A.map (λrow=>Zbi p row lead k) ++ B).map vz) ((A ++ B).map vz):=by
 refine ⟨λv hv=>?_,λv hv=>?_⟩
 .obtain ⟨row,hr,rfl⟩:=Zmy hv;rcases Jal.mp hr with hr | hr
  .obtain ⟨row',hr',rfl⟩:=Jap.mp hr;obtain ⟨a,b,_,e⟩:=Zgq (k:=k) h0 hF (hA _ hr') hL hk;rw [show vz (Zbi p row' lead k) = λj=>a * vz row' j + b * vz lead j from funext e];exact .comb a b (.mem (Jap.mpr ⟨row',Jal.mpr (.inl hr'),rfl⟩)) (.mem (Jap.mpr ⟨lead,Jal.mpr (.inr hB),rfl⟩))
  .exact .mem (Jap.mpr ⟨row,Jal.mpr (.inr hr),rfl⟩)
 .obtain ⟨row,hr,rfl⟩:=Zmy hv;rcases Jal.mp hr with hr | hr
  .obtain ⟨a,b,ha,e⟩:=Zgq (k:=k) h0 hF (hA _ hr) hL hk;rw [show (vz row:Nat->F) = λj=>(1 / a) * vz (Zbi p row lead k) j + (-(b / a)) * vz lead j from funext λj=>by rw [e j]; grind];exact .comb _ _ (.mem (Jap.mpr ⟨_,Jal.mpr (.inl (Jap.mpr ⟨row,hr,rfl⟩)),rfl⟩)) (.mem (Jap.mpr ⟨lead,Jal.mpr (.inr hB),rfl⟩))
  .exact .mem (Jap.mpr ⟨row,Jal.mpr (.inr hr),rfl⟩)
end
inductive Sw (p:Int) (Z:List (List Int)):Nat->List (List Int)->List (List Int)->List Nat->Prop
 | start:Sw p Z 0 [] Z []
 | skip {k:Nat} {done left:List (List Int)} {pl:List Nat}:Sw p Z k done left pl->(∀ row ∈ left,row.getD k 0 = 0)->Sw p Z (k + 1) done left pl
 | take {k:Nat} {done left:List (List Int)} {pl:List Nat} (i:Nat) (lead:List Int):Sw p Z k done left pl->left[i]? = some lead->lead.getD k 0 ≠ 0->Sw p Z (k + 1) (done ++ [lead]) ((left.eraseIdx i).map λrow=>Zbi p row lead k) (pl ++ [k])
structure SwI (p:Int) (W:Nat) (Z:List (List Int)) (k:Nat) (done left:List (List Int)) (pl:List Nat):Prop where
 len:done.length = pl.length
 all:done.length + left.length = Z.length
 rw:∀ row ∈ done ++ left,Rw p W row
 asc:∀ i j,i < j->j < pl.length->pl.getD i 0 < pl.getD j 0
 lt:∀ i,i < pl.length->pl.getD i 0 < k
 piv:∀ i,i < pl.length->(done.getD i []).getD (pl.getD i 0) 0 ≠ 0
 low:∀ i j,i < pl.length->j < pl.getD i 0->(done.getD i []).getD j 0 = 0
 zer:∀ row ∈ left,∀ j,j < k->row.getD j 0 = 0
 sp:∀ (F:Type) [Field F],FdOk p F->SpEq (F:=F) ((done ++ left).map vz) (Z.map vz)
theorem Zqq {α:Type} {xs:List α} {i:Nat} {x y:α} (h:xs[i]? = some x) (hy:y ∈ xs):y = x\/y ∈ xs.eraseIdx i:=by
 obtain ⟨j,hj,rfl⟩:=Jas.mp hy;by_cases e:j = i
 .subst e;rw [Jaa hj] at h;cases h;exact .inl rfl
 .refine .inr ?_;rw [List.mem_eraseIdx_iff_getElem?];exact ⟨j,e,Jaa hj⟩
theorem Zda {α:Type} {xs:List α} {x d:α} {i:Nat}:(xs ++ [x]).getD i d = if i < xs.length then xs.getD i d else if i = xs.length then x else d:=by
 rw [Jac,Jac];by_cases h:i < xs.length
 .rw [if_pos h,Jbd h]
 .rw [if_neg h,Jbb (Zhf h)];by_cases e:i = xs.length
  .rw [if_pos e,e,Nat.sub_self];rfl
  .rw [if_neg e,Jaj (by simp; exact oz41 h e)];rfl
theorem Sw.inv {p:Int} {W:Nat} {Z:List (List Int)} {k:Nat} {done left:List (List Int)} {pl:List Nat} (h0:0<=p) (hZ:∀ row ∈ Z,Rw p W row) (h:Sw p Z k done left pl):SwI p W Z k done left pl:=by
 induction h with
 | start=>exact ⟨rfl,by simp,by simpa using hZ,λi j _ h=>by simp at h,λi h=>by simp at h,λi h=>by simp at h,λi j h=>by simp at h,λ_ _ j h=>by omega,λF _ _=>SpEq.refl _⟩
 | @skip k done left pl h hz ih=>
  refine ⟨ih.len,ih.all,ih.rw,ih.asc,λi hi=>Jcl (ih.lt i hi),ih.piv,ih.low,λrow hr j hj=>?_,ih.sp⟩;by_cases e:j = k
  .subst e; exact hz row hr
  .exact ih.zer row hr j (Zmp hj e)
 | @take k done left pl i lead h hi hk ih=>
  have hlm:lead ∈ left:=Jae hi;have hil:i < left.length:=(Jah.mp hi).1;have rl:Rw p W lead:=ih.rw _ (Jal.mpr (.inr hlm));have re:∀ row ∈ left.eraseIdx i,Rw p W row:=λrow hr=>ih.rw _ (Jal.mpr (.inr (Jb1 hr)));have hlen:=ih.len;refine ⟨by rw [Jam,Jam,hlen]; rfl,?_,λrow hr=>?_,λa b hab hb=>?_,λa ha=>?_,λa ha=>?_,λa b ha hb=>?_,λrow hr j hj=>?_,λF _ hF=>?_⟩
  .rw [Jam,Jab,List.length_eraseIdx_of_lt hil];have:=ih.all;simp only [Jci,Jed];exact oz72 hil this
  .rcases Jal.mp hr with hr | hr
   .rcases Jal.mp hr with hr | hr
    .exact ih.rw _ (Jal.mpr (.inl hr))
    .rw [Ja1.mp hr]; exact rl
   .obtain ⟨row',hr',rfl⟩:=Jap.mp hr;exact Znl h0 (re _ hr') rl
  .rw [Jam] at hb;simp only [Jci,Jed] at hb;rw [Zda,Zda,if_pos (by omega)];by_cases e:b < pl.length
   .rw [if_pos e]; exact ih.asc a b hab e
   .rw [if_neg e,if_pos (oz76 hb e)]; exact ih.lt a (by omega)
  .rw [Jam] at ha;simp only [Jci,Jed] at ha;rw [Zda];by_cases e:a < pl.length
   .rw [if_pos e]; exact Jcl (ih.lt a e)
   .rw [if_neg e,if_pos (oz76 ha e)]; omega
  .rw [Jam] at ha;simp only [Jci,Jed] at ha;rw [Zda,Zda];by_cases e:a < pl.length
   .rw [if_pos e,if_pos (Zck hlen e)]; exact ih.piv a e
   .rw [if_neg e,if_neg (by omega),if_pos (oz111 hlen ha e),if_pos (oz76 ha e)]; exact hk
  .rw [Jam] at ha;simp only [Jci,Jed] at ha;rw [Zda] at hb ⊢;by_cases e:a < pl.length
   .rw [if_pos e] at hb;rw [if_pos (Zck hlen e)];exact ih.low a b e hb
   .rw [if_neg e,if_pos (oz76 ha e)] at hb;rw [if_neg (by omega),if_pos (oz111 hlen ha e)];exact ih.zer _ hlm b hb
  .obtain ⟨row',hr',rfl⟩:=Jap.mp hr;have hl:row'.length = lead.length:=(re _ hr').1.trans rl.1.symm;by_cases e:j = k
   .subst e; exact Zn5 hl
   .exact Zoy hl (ih.zer _ (Jb1 hr') j (Zmp hj e)) (ih.zer _ hlm j (Zmp hj e))
  .refine SpEq.trans ?_ (ih.sp F hF);refine SpEq.trans (SpEq.mems (L':=((left.eraseIdx i).map (λrow=>Zbi p row lead k) ++ (done ++ [lead])).map vz) λv=>?_) (SpEq.trans (Zi8 (k:=k) h0 hF re (by simp) rl hk) (SpEq.mems λv=>?_))
   .simp only [Jap,Jal];exact ⟨λ⟨a,b,c⟩=>⟨a,b.symm,c⟩,λ⟨a,b,c⟩=>⟨a,b.symm,c⟩⟩
   .simp only [Jap,Jal,Ja1];constructor
    .rintro ⟨a,b,c⟩;refine ⟨a,?_,c⟩;rcases b with b | b | b
     .exact .inr (Jb1 b)
     .exact .inl b
     .rw [b]; exact .inr hlm
    .rintro ⟨a,b,c⟩;refine ⟨a,?_,c⟩;rcases b with b | b
     .exact .inr (.inl b)
     .rcases Zqq hi b with b | b
      .exact .inr (.inr b)
      .exact .inl b
noncomputable def Za7 (p:Int) (pl:List Nat) (R0:List (List Int)):Nat->List (List Int)
 | 0=>R0
 | t + 1=>((Za7 p pl R0 t).take (pl.length - 1 - t)).map (λrow=>Zbi p row ((Za7 p pl R0 t).getD (pl.length - 1 - t) []) (pl.getD (pl.length - 1 - t) 0)) ++ (Za7 p pl R0 t).drop (pl.length - 1 - t)
theorem Za0 {α:Type} {xs:List α} {i:Nat} {d:α} (h:i < xs.length):xs.getD i d = xs[i]:=by rw [Jac,Jaa h]; rfl
theorem back_at {p:Int} {pl:List Nat} {R0:List (List Int)} {t i:Nat}:(Za7 p pl R0 (t + 1)).getD i [] =
  if i < pl.length - 1 - t/\i < (Za7 p pl R0 t).length then Zbi p ((Za7 p pl R0 t).getD i []) ((Za7 p pl R0 t).getD (pl.length - 1 - t) []) (pl.getD (pl.length - 1 - t) 0) else (Za7 p pl R0 t).getD i []:=by
 show (((Za7 p pl R0 t).take (pl.length - 1 - t)).map (λrow=>Zbi p row ((Za7 p pl R0 t).getD (pl.length - 1 - t) []) (pl.getD (pl.length - 1 - t) 0)) ++ (Za7 p pl R0 t).drop (pl.length - 1 - t)).getD i [] = _;generalize Za7 p pl R0 t = R;generalize pl.length - 1 - t = a;rw [Jac];by_cases h:i < a/\i < R.length
 .rw [if_pos h,Jbd (by rw [Jab,Jbf]; omega),Jad,Jde h.1,Jaa h.2,Za0 h.2];rfl
 .rw [if_neg h,Jbb (by rw [Jab,Jbf]; omega),Jab,Jbf,Jcw,Jac];by_cases h2:i < R.length
  .congr 2;exact oz49 h h2
  .rw [Jaj (oz106 h2),Jaj (Zhf h2)]
structure BkI (p:Int) (W wide:Nat) (Z:List (List Int)) (pl:List Nat) (F:Type) [Field F] (t:Nat) (R:List (List Int)):Prop where
 len:R.length = Z.length
 rw:∀ row ∈ R,Rw p W row
 piv:∀ i,i < pl.length->(vz (R.getD i []) (pl.getD i 0):F) ≠ 0
 low:∀ i j,i < pl.length->j < pl.getD i 0->(vz (R.getD i []) j:F) = 0
 zer:∀ i j,pl.length<=i->i < R.length->j < wide->(vz (R.getD i []) j:F) = 0
 up:∀ i l,i < pl.length->l < pl.length->pl.length - t<=l->l ≠ i->(vz (R.getD i []) (pl.getD l 0):F) = 0
 sp:SpEq (F:=F) (R.map vz) (Z.map vz)
theorem Zh1 {F:Type} [Field F] {zs:List Int} {j:Nat} (h:zs.getD j 0 = 0):(vz zs j:F) = 0:=by unfold vz; rw [h,Zev]
theorem Zbs {α:Type} {xs:List α} {x:α} (h:x ∈ xs) (d:α):∃ i,i < xs.length/\xs.getD i d = x:=by
 obtain ⟨i,hi,rfl⟩:=Jas.mp h;exact ⟨i,hi,Za0 hi⟩
theorem Zap {α:Type} {xs:List α} {i:Nat} {d:α} (h:i < xs.length):xs.getD i d ∈ xs:=by rw [Za0 h]; exact Jaw h
theorem Sw.back {p:Int} {W wide:Nat} {Z:List (List Int)} {done left:List (List Int)} {pl:List Nat} (h0:0<=p) (I:SwI p W Z wide done left pl) {F:Type} [Field F] (hF:FdOk p F):
  ∀ t,t<=pl.length->BkI p W wide Z pl F t (Za7 p pl (done ++ left) t)
 | 0,_=>by
  have hlen:=I.len;have e:∀ i,i < pl.length->(done ++ left).getD i [] = done.getD i []:=λi hi=>by
   rw [Jac,Jbd (Zck hlen hi),Jac]
  refine ⟨by show (done ++ left).length = _; rw [Jam]; exact I.all,I.rw,λi hi=>?_,λi j hi hj=>?_,λi j hi hi2 hj=>?_,λi l hi hl h=>by omega,I.sp F hF⟩
  .show (ic (((done ++ left).getD i []).getD (pl.getD i 0) 0):F) ≠ 0;have hr:(done ++ left).getD i [] ∈ done ++ left:=Zap (by rw [Jam]; omega);exact hF.ne0 ((I.rw _ hr).at h0 _) (by rw [e i hi]; exact I.piv i hi)
  .exact Zh1 (by show ((done ++ left).getD i []).getD j 0 = 0; rw [e i hi]; exact I.low i j hi hj)
  .have hi2':i < done.length + left.length:=by rw [<- Jam]; exact hi2
   refine Zh1 (I.zer _ ?_ j hj);show (done ++ left).getD i [] ∈ left;rw [Jac,Jbb (by omega),<- Jac];exact Zap (by omega)
 | t + 1,ht=>by
  have B:=Sw.back h0 I hF t (by omega);have hlen:=I.len;have hall:=I.all;have bat:∀ i,(Za7 p pl (done ++ left) (t + 1)).getD i [] = _:=λi=>back_at (p:=p) (pl:=pl) (R0:=done ++ left) (t:=t) (i:=i);have bdef:Za7 p pl (done ++ left) (t + 1) = ((Za7 p pl (done ++ left) t).take (pl.length - 1 - t)).map (λrow=>Zbi p row ((Za7 p pl (done ++ left) t).getD (pl.length - 1 - t) []) (pl.getD (pl.length - 1 - t) 0)) ++ (Za7 p pl (done ++ left) t).drop (pl.length - 1 - t):=rfl;generalize Za7 p pl (done ++ left) (t + 1) = R' at *;generalize Za7 p pl (done ++ left) t = R at *;have bl:=B.len;have ha:pl.length - 1 - t < R.length:=by omega
  have hap:pl.length - 1 - t < pl.length:=by exact oz78 ht
  have hla:R.getD (pl.length - 1 - t) [] ∈ R:=Zap ha;have rl:=B.rw _ hla;have pa:=B.piv _ hap;have ka:(R.getD (pl.length - 1 - t) []).getD (pl.getD (pl.length - 1 - t) 0) 0 ≠ 0:=λz=>pa (Zh1 z)
  -- the place of each
  have lowA:=B.low (pl.length - 1 - t);have upA:=B.up (pl.length - 1 - t);generalize hla':R.getD (pl.length - 1 - t) [] = lead at *;have ascA:∀ i,i < pl.length - 1 - t->pl.getD i 0 < pl.getD (pl.length - 1 - t) 0:=λi hi=>I.asc i _ hi hap;have ri:∀ i,i < R.length->Rw p W (R.getD i []):=λi hi=>B.rw _ (Zap hi);refine ⟨?_,λrow hr=>?_,λi hi=>?_,λi j hi hj=>?_,λi j hi hi2 hj=>?_,λi l hi hl h hne=>?_,?_⟩
  .rw [bdef,Jam,Jab,Jbf,Jbm];exact oz57 bl
  .rw [bdef] at hr;rcases Jal.mp hr with hr | hr
   .obtain ⟨row',hr',rfl⟩:=Jap.mp hr;exact Znl h0 (B.rw _ (Jcy hr')) rl
   .exact B.rw _ (Jco hr)
  .rw [bat];split
   .rename_i hc
    obtain ⟨a,b,ha0,e⟩:=Zgq (k:=pl.getD (pl.length - 1 - t) 0) h0 hF (ri i hc.2) rl ka;rw [e,lowA _ hap (ascA i hc.1)];have:=B.piv i hi
    grind
   .exact B.piv i hi
  .rw [bat];split
   .rename_i hc
    obtain ⟨a,b,ha0,e⟩:=Zgq (k:=pl.getD (pl.length - 1 - t) 0) h0 hF (ri i hc.2) rl ka;have:=ascA i hc.1;rw [e,lowA j hap (by omega),B.low i j hi hj]
    grind
   .exact B.low i j hi hj
  .rw [bat,if_neg (by omega)];refine B.zer i j hi ?_ hj;have:R'.length = R.length:=by
    rw [bdef,Jam,Jab,Jbf,Jbm];exact oz39
   omega
  .rw [bat];by_cases hla2:l = pl.length - 1 - t
   .subst hla2;by_cases hc:i < pl.length - 1 - t
    .rw [if_pos ⟨hc,oz158 hlen hall bl hi⟩];exact Zh1 (Zn5 ((ri i (oz158 hlen hall bl hi)).1.trans rl.1.symm))
    .rw [if_neg (by omega)];exact B.low i _ hi (I.asc _ _ (by omega) hi)
   .have hu:=B.up i l hi hl (oz1 h hla2) hne;split
    .rename_i hc
     obtain ⟨a,b,ha0,e⟩:=Zgq (k:=pl.getD (pl.length - 1 - t) 0) h0 hF (ri i hc.2) rl ka;rw [e,hu,upA l hap hl (oz1 h hla2) (by omega)]
     grind
    .exact hu
  .refine SpEq.trans ?_ B.sp;rw [bdef];have hm:lead ∈ R.drop (pl.length - 1 - t):=by
    rw [<- hla',Za0 ha,List.drop_eq_getElem_cons ha];exact Jc6
   have:=Zi8 (A:=R.take (pl.length - 1 - t)) (B:=R.drop (pl.length - 1 - t)) (k:=pl.getD (pl.length - 1 - t) 0) h0 hF (λrow hr=>B.rw _ (Jcy hr)) hm rl ka;rwa [List.take_append_drop] at this
noncomputable def Za2 (pl:List Nat) (R:List (List Int)) (i:Nat):Int:=if i < pl.length then (R.getD i []).getD (pl.getD i 0) 0 else 1
theorem BkI.lead {p:Int} {W wide:Nat} {Z:List (List Int)} {pl:List Nat} {F:Type} [Field F] {R:List (List Int)} (B:BkI p W wide Z pl F pl.length R) (i:Nat):(ic (Za2 pl R i):F) ≠ 0:=by
 unfold Za2;split
 .exact B.piv i (by assumption)
 .rw [Zeo]; exact Zo1
theorem BkI.rr {p:Int} {W wide:Nat} {Z:List (List Int)} {pl:List Nat} {F:Type} [Field F] {R:List (List Int)} (B:BkI p W wide Z pl F pl.length R) (asc:∀ i j,i < j->j < pl.length->pl.getD i 0 < pl.getD j 0) (lt:∀ i,i < pl.length->pl.getD i 0 < wide) (hr:pl.length<=Z.length)
  {L:List (Nat->F)} (hl:L.length = Z.length) (he:∀ i,i < Z.length->at' L i = λj=>vz (R.getD i []) j / ic (Za2 pl R i)):RR L wide pl.length (λi=>pl.getD i 0)/\SpEq L (Z.map vz):=by
 have bl:=B.len;refine ⟨⟨by omega,lt,λi k h1 h2=>asc i k h1 h2,λi k hi hk=>?_,λi j hi hj=>?_,λi j hi hi2 hj=>?_⟩,?_⟩
 .rw [he i (Zr4 hr hi)];show (vz (R.getD i []) (pl.getD k 0):F) / ic (Za2 pl R i) = if i = k then 1 else 0
  by_cases e:i = k
  .subst e;rw [if_pos rfl];have:=B.piv i hi;have e2:(ic (Za2 pl R i):F) = vz (R.getD i []) (pl.getD i 0):=by unfold Za2 vz; rw [if_pos hi]
   rw [e2]
   grind
  .rw [if_neg e,B.up i k hi hk (by omega) (λz=>e z.symm)];have:=B.lead i
   grind
 .rw [he i (Zr4 hr hi)];show (vz (R.getD i []) j:F) / ic (Za2 pl R i) = 0;rw [B.low i j hi hj];have:=B.lead i
  grind
 .rw [he i (Ze2 hl hi2)];show (vz (R.getD i []) j:F) / ic (Za2 pl R i) = 0;rw [B.zer i j hi (by omega) hj];have:=B.lead i
  grind
 .refine SpEq.trans ⟨λv hv=>?_,λv hv=>?_⟩ B.sp
  .obtain ⟨i,hi,e⟩:=Zbs hv zv;have e':v = at' L i:=e.symm;rw [e',he i (Ze2 hl hi)];have hm:SpL (R.map vz) (vz (R.getD i []):Nat->F):=.mem (Jap.mpr ⟨_,Zap (by omega),rfl⟩);have:=hm.smul (1 / ic (Za2 pl R i));rwa [show (λj=>1 / ic (Za2 pl R i) * vz (R.getD i []) j:Nat->F) = λj=>vz (R.getD i []) j / ic (Za2 pl R i) from funext λj=>by have:=B.lead i; grind] at this
  .obtain ⟨row,hr,rfl⟩:=Zmy hv;obtain ⟨i,hi,rfl⟩:=Zbs hr [];have hm:SpL L (at' L i):=.mem (Zbz (oz82 hl bl hi));have:=hm.smul (ic (Za2 pl R i));rwa [show (λj=>ic (Za2 pl R i) * at' L i j:Nat->F) = vz (R.getD i []) from funext λj=>by rw [he i (Ze2 bl hi)]; have:=B.lead i; grind] at this
def SmallR (n:Nat) (row:List Int):Prop:=∀ z ∈ row,Bt n z
theorem SmallR.le {n m:Nat} {row:List Int} (h:SmallR n row) (hm:n<=m):SmallR m row:=λz hz=>(h z hz).le hm
theorem SmallR.at {n:Nat} {row:List Int} (h:SmallR n row) (j:Nat):Bt n (row.getD j 0):=by
 rcases Zis (zs:=row) j with m | e
 .exact h _ m
 .rw [e]; exact Zg1 n
theorem Zjb {p:Int} {n:Nat} {row:List Int} (hp:0<=p) (p97:p<=97) (h7:7<=n) (h:p = 0->SmallR n row):SmallR n (Zd0 p row):=λz hz=>by
 unfold Zd0 at hz;split at hz
 .rename_i h0
  obtain ⟨y,hy,rfl⟩:=Jap.mp hz;exact (h h0 y hy).quo (Zke hy)
 .rename_i h0
  obtain ⟨y,hy,rfl⟩:=Jap.mp hz;have h1:=Jbr y h0;have h2:=Jbg y (show 0 < p by omega);exact Zaz h7 (by omega)
theorem Zkz {n:Nat} {row lead:List Int} {k:Nat} (h:SmallR n row) (h':SmallR n lead):SmallR (2 * n + 1) (Zjp row lead k):=λz hz=>by
 obtain ⟨j,hj0,rfl⟩:=Jas.mp hz;have hj:j < min row.length lead.length:=by have:=hj0; unfold Zjp at this; rwa [Jd6] at this
 have e:(Zjp row lead k)[j]'(by unfold Zjp; rw [Jd6]; exact hj) = lead.getD k 0 / (Int.gcd (row.getD k 0) (lead.getD k 0):Int) * row[j]'(oz89 hj) - row.getD k 0 / (Int.gcd (row.getD k 0) (lead.getD k 0):Int) * lead[j]'(oz92 hj):=by
  unfold Zjp;rw [List.getElem_zipWith]
 rw [e];have b1:=((h'.at k).quo (Jb0 (row.getD k 0) (lead.getD k 0))).mul (h _ (Jaw (show j < row.length by exact oz89 hj)));have b2:=((h.at k).quo (Jbv (row.getD k 0) (lead.getD k 0))).mul (h' _ (Jaw (show j < lead.length by exact oz92 hj)));have:=Bt.sub b1 b2;rwa [show n + n + 1 = 2 * n + 1 by omega] at this
theorem Zf8 {p:Int} {n:Nat} {row lead:List Int} {k:Nat} (hp:0<=p) (p97:p<=97) (h7:7<=n) (h:SmallR n row) (h':SmallR n lead):SmallR (2 * n + 1) (Zbi p row lead k):=by
 unfold Zbi;split
 .exact h.le (by omega)
 .exact Zjb hp p97 (by omega) λ_=>Zkz h h'
theorem Sw.dbl {p:Int} {Z:List (List Int)} {k n:Nat} {done left:List (List Int)} {pl:List Nat} (hp:0<=p) (p97:p<=97) (h7:7<=n) (hZ:∀ row ∈ Z,SmallR n row) (h:Sw p Z k done left pl):∀ row ∈ done ++ left,SmallR ((n + 1) * 2 ^ k - 1) row:=by
 induction h with
 | start=>simpa using hZ
 | @skip k done left pl h hz ih=>
  intro row hr;refine (ih row hr).le ?_;rw [Jd9];have:0 < (n + 1) * 2 ^ k:=Jey (by omega) (Jbj k);rw [<- Jdm];omega
 | @take k done left pl i lead h hi hk ih=>
  have e:(n + 1) * 2 ^ (k + 1) - 1 = 2 * ((n + 1) * 2 ^ k - 1) + 1:=by
   rw [Jd9,<- Jdm];have:0 < (n + 1) * 2 ^ k:=Jey (by omega) (Jbj k);exact oz67 this
  have h7':7<=(n + 1) * 2 ^ k - 1:=by
   have:(n + 1) * 1<=(n + 1) * 2 ^ k:=Jaz (Jag _) (Jbj k);exact oz66 h7 this
  have sl:=ih lead (Jal.mpr (.inr (Jae hi)));intro row hr;rw [e];rcases Jal.mp hr with hr | hr
  .rcases Jal.mp hr with hr | hr
   .exact (ih row (Jal.mpr (.inl hr))).le (by omega)
   .rw [Ja1.mp hr]; exact sl.le (by omega)
  .obtain ⟨row',hr',rfl⟩:=Jap.mp hr;exact Zf8 hp p97 h7' (ih _ (Jal.mpr (.inr (Jb1 hr')))) sl
theorem Zhy {p:Int} {n:Nat} {pl:List Nat} {R0:List (List Int)} (hp:0<=p) (p97:p<=97) (h7:7<=n) (hZ:∀ row ∈ R0,SmallR n row):∀ t,∀ row ∈ Za7 p pl R0 t,SmallR ((n + 1) * 2 ^ t - 1) row
 | 0=>by simpa [Za7] using hZ
 | t + 1=>by
  have ih:=Zhy (pl:=pl) hp p97 h7 hZ t;have e:(n + 1) * 2 ^ (t + 1) - 1 = 2 * ((n + 1) * 2 ^ t - 1) + 1:=by
   rw [Jd9,<- Jdm];have:0 < (n + 1) * 2 ^ t:=Jey (by omega) (Jbj t);exact oz67 this
  have h7':7<=(n + 1) * 2 ^ t - 1:=by
   have:(n + 1) * 1<=(n + 1) * 2 ^ t:=Jaz (Jag _) (Jbj t);exact oz66 h7 this
  have sl:SmallR ((n + 1) * 2 ^ t - 1) ((Za7 p pl R0 t).getD (pl.length - 1 - t) []):=by
   by_cases h:pl.length - 1 - t < (Za7 p pl R0 t).length
   .exact ih _ (Zap h)
   .rw [Jac,Jaj (by omega)];exact λz hz=>by simp at hz
  intro row hr;rw [e];rcases Jal.mp hr with hr | hr
  .obtain ⟨row',hr',rfl⟩:=Jap.mp hr;exact Zf8 hp p97 h7' (ih _ (Jcy hr')) sl
  .exact (ih row (Jco hr)).le (by omega)
end L3
namespace L2
open PySem PySem.Spec PyProof.Rows
section
variable {H:Hp} {Q:VK} {σ:St} {x:V} {z0 z1 z2 z3 z4 z5 z6 z7 z8 z9 z10 z11 z12:Option V}
theorem Zge {i:Nat} (h:σ[i]? = some (some x)):Zi6 i σ H Q = Q x H:=by
 unfold Zi6;rw [h];exact propext ⟨λ⟨v,e,q⟩=>by cases e; exact q,λq=>⟨x,rfl,q⟩⟩
theorem tv0:Zi6 0 (some x :: σ) H Q = Q x H:=Zge rfl
theorem tv1:Zi6 1 (z0 :: some x :: σ) H Q = Q x H:=Zge rfl
theorem tv2:Zi6 2 (z0 :: z1 :: some x :: σ) H Q = Q x H:=Zge rfl
theorem tv3:Zi6 3 (z0 :: z1 :: z2 :: some x :: σ) H Q = Q x H:=Zge rfl
theorem tv4:Zi6 4 (z0 :: z1 :: z2 :: z3 :: some x :: σ) H Q = Q x H:=Zge rfl
theorem tv5:Zi6 5 (z0 :: z1 :: z2 :: z3 :: z4 :: some x :: σ) H Q = Q x H:=Zge rfl
theorem tv6:Zi6 6 (z0 :: z1 :: z2 :: z3 :: z4 :: z5 :: some x :: σ) H Q = Q x H:=Zge rfl
theorem tv7:Zi6 7 (z0 :: z1 :: z2 :: z3 :: z4 :: z5 :: z6 :: some x :: σ) H Q = Q x H:=Zge rfl
theorem tv8:Zi6 8 (z0 :: z1 :: z2 :: z3 :: z4 :: z5 :: z6 :: z7 :: some x :: σ) H Q = Q x H:=Zge rfl
theorem tv9:Zi6 9 (z0 :: z1 :: z2 :: z3 :: z4 :: z5 :: z6 :: z7 :: z8 :: some x :: σ) H Q = Q x H:=Zge rfl
theorem tv10:Zi6 10 (z0 :: z1 :: z2 :: z3 :: z4 :: z5 :: z6 :: z7 :: z8 :: z9 :: some x :: σ) H Q = Q x H:=Zge rfl
theorem tv11:Zi6 11 (z0 :: z1 :: z2 :: z3 :: z4 :: z5 :: z6 :: z7 :: z8 :: z9 :: z10 :: some x :: σ) H Q = Q x H:=Zge rfl
theorem tv12:Zi6 12 (z0 :: z1 :: z2 :: z3 :: z4 :: z5 :: z6 :: z7 :: z8 :: z9 :: z10 :: z11 :: some x :: σ) H Q = Q x H:=Zge rfl
theorem tv13:Zi6 13 (z0 :: z1 :: z2 :: z3 :: z4 :: z5 :: z6 :: z7 :: z8 :: z9 :: z10 :: z11 :: z12 :: some x :: σ) H Q = Q x H:=Zge rfl
theorem pI0 {g:Int->Int->V} {i j:Int}:rI0 g (.int i) (.int j) H Q = Q (g i j) H:=propext ⟨λ⟨_,_,e,e',q⟩=>by cases e; cases e'; exact q,λq=>⟨i,j,rfl,rfl,q⟩⟩
theorem pI {D:Int->Int->Prop} {g:Int->Int->V} {i j:Int}:rI D g (.int i) (.int j) H Q = (D i j/\Q (g i j) H):=propext ⟨λ⟨_,_,e,e',q⟩=>by cases e; cases e'; exact q,λq=>⟨i,j,rfl,rfl,q⟩⟩
theorem pU {g:Int->V} {i:Int}:rU g (.int i) H Q = Q (g i) H:=propext ⟨λ⟨_,e,q⟩=>by cases e; exact q,λq=>⟨i,rfl,q⟩⟩
theorem pIxL {K:PySem.W.Frag} {a:Addr} {k:Int}:rIxL K (.ref a) (.int k) H Q = ∃ xs,SqL K H a xs/\∃ v,atI xs k = some v/\Q v H:=propext ⟨λ⟨_,xs,_,v,e,e',h,h',q⟩=>by cases e; cases e'; exact ⟨xs,h,v,h',q⟩,λ⟨xs,h,v,h',q⟩=>⟨a,xs,k,v,rfl,rfl,h,h',q⟩⟩
theorem pIxT {K:PySem.W.Frag} {a:Addr} {k:Int}:rIxT K (.ref a) (.int k) H Q = ∃ xs,SqT K H a xs/\∃ v,atI xs k = some v/\Q v H:=propext ⟨λ⟨_,xs,_,v,e,e',h,h',q⟩=>by cases e; cases e'; exact ⟨xs,h,v,h',q⟩,λ⟨xs,h,v,h',q⟩=>⟨a,xs,k,v,rfl,rfl,h,h',q⟩⟩
theorem pEb {b:Bool} {p:Bool->Prop}:(∃ k,V.bl b = V.bl k/\p k) = p b:=propext ⟨λ⟨_,e,q⟩=>by cases e; exact q,λq=>⟨b,rfl,q⟩⟩
theorem pEi {b:Int} {p:Int->Prop}:(∃ k,V.int b = V.int k/\p k) = p b:=propext ⟨λ⟨_,e,q⟩=>by cases e; exact q,λq=>⟨b,rfl,q⟩⟩
theorem pEr {b:Addr} {p:Addr->Prop}:(∃ k,V.ref b = V.ref k/\p k) = p b:=propext ⟨λ⟨_,e,q⟩=>by cases e; exact q,λq=>⟨b,rfl,q⟩⟩
theorem pEqT {K:PySem.W.Frag} {b:Bool} {a c:Addr}:Zsu K b (.ref a) (.ref c) H Q = ∃ xs,SqT K H a xs/\∃ ys,SqT K H c ys/\∃ bs,Zfj K H 6 xs ys bs/\Q (V.bl (if b = true then !bs.all id else bs.all id)) H:=propext ⟨λ⟨_,_,xs,ys,bs,e,e',h,h',h'',q⟩=>by cases e; cases e'; exact ⟨xs,h,ys,h',bs,h'',q⟩,λ⟨xs,h,ys,h',bs,h'',q⟩=>⟨a,c,xs,ys,bs,rfl,rfl,h,h',h'',q⟩⟩
theorem pEqL {K:PySem.W.Frag} {b:Bool} {a c:Addr}:rEqL K b (.ref a) (.ref c) H Q = ∃ xs,SqL K H a xs/\∃ ys,SqL K H c ys/\(xs.length ≠ ys.length/\Q (V.bl b) H\/∃ bs,Zfj K H 6 xs ys bs/\Q (V.bl (if b = true then !bs.all id else bs.all id)) H):=propext ⟨λ⟨_,_,xs,ys,e,e',h,h',q⟩=>by cases e; cases e'; exact ⟨xs,h,ys,h',q⟩,λ⟨xs,h,ys,h',q⟩=>⟨a,c,xs,ys,rfl,rfl,h,h',q⟩⟩
theorem pSlL {K:PySem.W.Frag} {a:Addr} {lo hi:Option Int}:rSlL K (.ref a) lo hi H Q = ∃ xs,SqL K H a xs/\∀ p,H p = none->Q (.ref p) (upd H p (.lst (Zlz xs lo hi))):=propext ⟨λ⟨_,xs,e,h,q⟩=>by cases e; exact ⟨xs,h,q⟩,λ⟨xs,h,q⟩=>⟨a,xs,rfl,h,q⟩⟩
theorem pCat {a c:Addr}:rCat (.ref a) (.ref c) H Q = ∃ xs,H a = some (.lst xs)/\∃ ys,H c = some (.lst ys)/\xs.length + ys.length<=sizeLine/\∀ p,H p = none->Q (.ref p) (upd H p (.lst (xs ++ ys))):=propext ⟨λ⟨_,_,xs,ys,e,e',h,h',q⟩=>by cases e; cases e'; exact ⟨xs,h,ys,h',q⟩,λ⟨xs,h,ys,h',q⟩=>⟨a,c,xs,ys,rfl,rfl,h,h',q⟩⟩
theorem pApp {a:Addr} {v:V}:Zmn (.ref a) [v] H Q = ∃ xs,H a = some (.lst xs)/\xs.length < sizeLine/\Q .non (upd H a (.lst (xs ++ [v]))):=propext ⟨λ⟨_,xs,_,e,e',q⟩=>by cases e; cases e'; exact ⟨xs,q⟩,λ⟨xs,q⟩=>⟨a,xs,v,rfl,rfl,q⟩⟩
theorem pTup {K:PySem.W.Frag} {n:Nat} {t:TGs} {a:Addr} {R:St->Hp->Prop}:gTup K n t (.ref a) σ H R = ∃ xs,SqT K H a xs/\xs.length = n/\t xs σ H R:=propext ⟨λ⟨_,xs,e,q⟩=>by cases e; exact ⟨xs,q⟩,λ⟨xs,q⟩=>⟨a,xs,rfl,q⟩⟩
theorem pL1 {α:Type} {a:Addr} {p:Addr->α->Prop}:(∃ b y,[V.ref a] = [V.ref b]/\p b y) = ∃ y,p a y:=propext ⟨λ⟨_,y,e,q⟩=>by cases e; exact ⟨y,q⟩,λ⟨y,q⟩=>⟨a,y,rfl,q⟩⟩
theorem pL0 {a:Addr} {p:Addr->Prop}:(∃ b,[V.ref a] = [V.ref b]/\p b) = p a:=propext ⟨λ⟨_,e,q⟩=>by cases e; exact q,λq=>⟨a,rfl,q⟩⟩
theorem pLi {a:Int} {p:Int->Prop}:(∃ b,[V.int a] = [V.int b]/\p b) = p a:=propext ⟨λ⟨_,e,q⟩=>by cases e; exact q,λq=>⟨a,rfl,q⟩⟩
theorem pE5 {α β γ δ:Type} {a:Addr} {p:Addr->α->β->γ->δ->Prop}:(∃ b x y z u,V.ref a = V.ref b/\p b x y z u) = ∃ x y z u,p a x y z u:=propext ⟨λ⟨_,x,y,z,u,e,q⟩=>by cases e; exact ⟨x,y,z,u,q⟩,λ⟨x,y,z,u,q⟩=>⟨a,x,y,z,u,rfl,q⟩⟩
end
end L2
set_option maxHeartbeats 4000000
open PySem L2 PyProof.Rows
local macro_rules | `($a<&>$b)=>`(@pa_c _ _ _ _ _ $a $b (by rfl))
local macro_rules | `($a<*>$b)=>`(@Zsw _ _ _ _ _ $a $b)
local macro_rules | `($o<|>$a<&&>$b)=>`(@pe_op _ _ _ _ _ _ _ _ $o $a $b)
local macro_rules | `($o<|>$a<||>$b)=>`(@pe_ix _ _ _ _ _ _ _ $o $a $b (λ_ _=>rfl))
local macro_rules | `(~~~$x)=>`(@Zas _ _ _ (@ps_ret _ _ _ _ $x))
local macro_rules | `(tactic| walk_at "wp")=>do
 let f (s:String):=(s.splitOn " ").toArray.map fun x=>Lean.mkIdent x.toName
 let a:=f "tv0 tv1 tv2 tv3 tv4 tv5 tv6 tv7 tv8 tv9 tv10 tv11 tv12 tv13 pI0 pI pU pIxL pIxT pEb pEi pEr pEqT pEqL pSlL pCat pApp pTup pL1 pL0 pLi pE5 Zi7 tIfS tTest tOp tUn tC tCB tCons tNil tRet tRetN tNext tDrop tAsg tAug ipI Zb4 gTup Zls gNil gSub tTup tLst tSl Zo9 tPart Zul Zsh tBM tBM0 tPar tB tAnd tOr tNot tAndV tOrV tNotV tIf Zhq Zsg tMeth tFld sFld tAugS rGetL rI0 rI rU rIxL rIxT rSetL rSlL Zmn Zup iEnm iRvl tLE gSl0 tMinL rBits tTry hEnds tRaise hnd_K pnx_K rCat rEq rNe rEqL Zsu rIn scal_ii scal_bb scal_ss iList iTup iRng1 iRng2 cV cx_K in_K wish_K E0 L2.start"
 let b:=f "Zi6 List.map List.length List.replicate List.cons_append List.nil_append List.append_nil List.getElem?_cons_zero List.getElem?_cons_succ Jbi Jce Option.some.injEq exists_eq_left' exists_eq_left exists_and_left V.int.injEq V.bl.injEq V.ref.injEq V.ty.injEq List.cons.injEq reduceCtorEq false_and and_false exists_false or_false false_or and_true true_and Nat.reduceSub Nat.reduceAdd Nat.reduceLT Jdf Jdu Jcn"
 `(tactic| simp only [$[↓$a:term],*,$[$b:term],*])
namespace Pf
open PySem L2 PyProof.Rows
noncomputable def top (i:Nat):Stmt:=PySem.Challenge.pw_limbtables_k11_backs_and_columns.main.body.getD i (.Pass ⟨0,0,0,0⟩)
abbrev Zdr:Stmt:=top 9
abbrev Zbh:Stmt:=top 10
abbrev Zbj:Stmt:=top 11
abbrev Zcz:Stmt:=top 12
abbrev Zbk:Stmt:=top 13
abbrev Zbf:Stmt:=top 14
abbrev Zcy:Stmt:=top 19
abbrev Zfp:Stmt:=top 23
abbrev Zek:Stmt:=top 24
abbrev Zbr:Stmt:=top 25
abbrev Zgv:Stmt:=top 26
abbrev Zby:Stmt:=top 27
abbrev Zgw:Stmt:=top 16
abbrev Zef:Stmt:=top 17
abbrev Zbx:Stmt:=top 22
abbrev Zed:Stmt:=top 28
abbrev Zds:Stmt:=top 34
abbrev Zbw:Stmt:=top 35
abbrev Zdt:Stmt:=top 36
abbrev Zej:Stmt:=top 37
abbrev Zec:Stmt:=top 38
abbrev Zb9:Stmt:=Zq9 (top 39) 0
abbrev Zax:Stmt:=Zq9 (top 39) 1
abbrev Zdp:Stmt:=top 41
abbrev Zei:Stmt:=top 42
abbrev Zdn:Stmt:=top 43
abbrev Zeh:Stmt:=top 44
abbrev Zbq:Stmt:=top 45
abbrev Zc1:Stmt:=top 46
abbrev Zc3:Stmt:=top 47
abbrev Zcm:Stmt:=top 48
abbrev Zdw:Stmt:=top 49
abbrev Zdv:Stmt:=top 50
abbrev Zeg:Stmt:=top 51
abbrev Zdq:Stmt:=top 53
abbrev Zdk:Stmt:=top 55
abbrev Zc2:Stmt:=top 56
abbrev Zdo:Stmt:=top 57
abbrev Zb8:Stmt:=top 58
abbrev Zb7:Stmt:=top 61
abbrev Zj4:Stmt:=top 65
abbrev Zee:Stmt:=top 18
abbrev Zc0:Stmt:=top 20
abbrev Zbv:Stmt:=top 21
abbrev Zcl:Stmt:=top 62
abbrev Zel:Stmt:=top 29
abbrev Zfq:Stmt:=top 30
abbrev Zcn:Stmt:=top 31
abbrev Zdj:Stmt:=top 52
abbrev Zdm:Stmt:=top 59
abbrev Zdl:Stmt:=top 54
abbrev Zc4:Stmt:=top 60
abbrev Zbg:Stmt:=top 63
abbrev Zbl:Stmt:=top 64
theorem Zif:FnScope ["thing"] ["thing"] (Zad Zdr):=⟨rfl,rfl,rfl,by decide +kernel,rfl,by decide +kernel,by decide +kernel⟩
theorem Zeb:FnScope ["one","other"] ["one","other"] (Zad Zbh):=⟨rfl,rfl,rfl,by decide +kernel,rfl,by decide +kernel,by decide +kernel⟩
theorem Zey:FnScope ["one","other"] ["one","other"] (Zad Zbj):=⟨rfl,rfl,rfl,by decide +kernel,rfl,by decide +kernel,by decide +kernel⟩
theorem Zg5:FnScope ["one","other","shift","a","b","c","d"] ["one","other"] (Zad Zcz):=⟨rfl,rfl,rfl,by decide +kernel,rfl,by decide +kernel,by decide +kernel⟩
theorem Zez:FnScope ["one","other","a","b","c","d","many"] ["one","other"] (Zad Zbk):=⟨rfl,rfl,rfl,by decide +kernel,rfl,by decide +kernel,by decide +kernel⟩
theorem Zd1:FnScope ["one","other"] ["one","other"] (Zad Zbf):=⟨rfl,rfl,rfl,by decide +kernel,rfl,by decide +kernel,by decide +kernel⟩
theorem Zg4:FnScope ["ground","row","bottom","number"] ["ground","row"] (Zad Zcy):=⟨rfl,rfl,rfl,by decide +kernel,rfl,by decide +kernel,by decide +kernel⟩
theorem Zk3:FnScope ["ground","row","divisor","number"] ["ground","row"] (Zad Zfp):=⟨rfl,rfl,rfl,by decide +kernel,rfl,by decide +kernel,by decide +kernel⟩
theorem Zjn:FnScope ["ground","row","lead","place","divisor","keep","take"] ["ground","row","lead","place"] (Zad Zek):=⟨rfl,rfl,rfl,by decide +kernel,rfl,by decide +kernel,by decide +kernel⟩
theorem Zf0:FnScope ["rows","place","found"] ["rows","place"] (Zad Zbr):=⟨rfl,rfl,rfl,by decide +kernel,rfl,by decide +kernel,by decide +kernel⟩
theorem Znj:FnScope ["ground","rows","wide","done","left","places","place","at","lead"] ["ground","rows","wide"] (Zad Zgv):=⟨rfl,rfl,rfl,by decide +kernel,rfl,by decide +kernel,by decide +kernel⟩
theorem Ze9:FnScope ["ground","rows","wide","found","places","at","place","leads"] ["ground","rows","wide"] (Zad Zby):=⟨rfl,rfl,rfl,by decide +kernel,rfl,by decide +kernel,by decide +kernel⟩
theorem Znk:FnScope ["ground","many","high","wide","rows","place"] ["ground","many"] (Zad Zgw):=⟨rfl,rfl,rfl,by decide +kernel,rfl,by decide +kernel,by decide +kernel⟩
theorem Zji:FnScope ["ground","high","wide"] ["ground","high","wide"] (Zad Zef):=⟨rfl,rfl,rfl,by decide +kernel,rfl,by decide +kernel,by decide +kernel⟩
theorem Ze8:FnScope ["ground","high","tables","rows","table","place"] ["ground","high","tables"] (Zad Zbx):=⟨rfl,rfl,rfl,by decide +kernel,rfl,by decide +kernel,by decide +kernel⟩
theorem Zjg:FnScope ["ground","table","high","wide","given","joined","rows"] ["ground","table"] (Zad Zed):=⟨rfl,rfl,rfl,by decide +kernel,rfl,by decide +kernel,by decide +kernel⟩
theorem Zig:FnScope ["number"] ["number"] (Zad Zds):=⟨rfl,rfl,rfl,by decide +kernel,rfl,by decide +kernel,by decide +kernel⟩
theorem Ze7:FnScope ["thing"] ["thing"] (Zad Zbw):=⟨rfl,rfl,rfl,by decide +kernel,rfl,by decide +kernel,by decide +kernel⟩
theorem Zih:FnScope ["top","bottom","divisor"] ["top","bottom"] (Zad Zdt):=⟨rfl,rfl,rfl,by decide +kernel,rfl,by decide +kernel,by decide +kernel⟩
theorem Zjm:FnScope ["rest","prime","low","high","low_times","high_times","many"] ["rest","prime"] (Zad Zej):=⟨rfl,rfl,rfl,by decide +kernel,rfl,by decide +kernel,by decide +kernel⟩
theorem Zjf:FnScope ["top","bottom","prime","below"] ["top","bottom","prime"] (Zad Zec):=⟨rfl,rfl,rfl,by decide +kernel,rfl,by decide +kernel,by decide +kernel⟩
theorem Zf3:FnScope ["self","prime"] ["self","prime"] (Zad Zb9):=⟨rfl,rfl,rfl,by decide +kernel,rfl,by decide +kernel,by decide +kernel⟩
theorem Ze1:FnScope ["self","top","bottom"] ["self","top","bottom"] (Zad Zax):=⟨rfl,rfl,rfl,by decide +kernel,rfl,by decide +kernel,by decide +kernel⟩
theorem Zid:FnScope ["_law_script","_law_k"] ["_law_script","_law_k"] (Zad Zdp):=⟨rfl,rfl,rfl,by decide +kernel,rfl,by decide +kernel,by decide +kernel⟩
theorem Zjl:FnScope ["_law_cell_here"] ["_law_cell_here"] (Zad Zei):=⟨rfl,rfl,rfl,by decide +kernel,rfl,by decide +kernel,by decide +kernel⟩
theorem Zib:FnScope ["_law_bag_here","_law_many","_law_found"] ["_law_bag_here","_law_many"] (Zad Zdn):=⟨rfl,rfl,rfl,by decide +kernel,rfl,by decide +kernel,by decide +kernel⟩
theorem Zjk:FnScope ["_law_one","_law_two","_law_rest"] ["_law_one","_law_two"] (Zad Zeh):=⟨rfl,rfl,rfl,by decide +kernel,rfl,by decide +kernel,by decide +kernel⟩
theorem Zdg:FnScope ["_law_top","_law_bottom","_law_both"] ["_law_top","_law_bottom"] (Zad Zbq):=⟨rfl,rfl,rfl,by decide +kernel,rfl,by decide +kernel,by decide +kernel⟩
theorem Zg7:FnScope ["_law_found"] ["_law_found"] (Zad Zc1):=⟨rfl,rfl,rfl,by decide +kernel,rfl,by decide +kernel,by decide +kernel⟩
theorem Zg9:FnScope ["_law_bag_here","_law_way"] ["_law_bag_here"] (Zad Zc3):=⟨rfl,rfl,rfl,by decide +kernel,rfl,by decide +kernel,by decide +kernel⟩
theorem Zgi:FnScope ["_law_bag_here","_law_p","_law_way"] ["_law_bag_here","_law_p"] (Zad Zcm):=⟨rfl,rfl,rfl,by decide +kernel,rfl,by decide +kernel,by decide +kernel⟩
theorem Zfo:FnScope ["_law_p","_law_a","_law_b"] ["_law_p","_law_a","_law_b"] (Zad Zdw):=⟨rfl,rfl,rfl,by decide +kernel,rfl,by decide +kernel,by decide +kernel⟩
theorem Zfn:FnScope ["_law_p","_law_a","_law_b"] ["_law_p","_law_a","_law_b"] (Zad Zdv):=⟨rfl,rfl,rfl,by decide +kernel,rfl,by decide +kernel,by decide +kernel⟩
theorem Zjj:FnScope ["_law_p","_law_k"] ["_law_p","_law_k"] (Zad Zeg):=⟨rfl,rfl,rfl,by decide +kernel,rfl,by decide +kernel,by decide +kernel⟩
theorem Zie:FnScope ["_law_p","_law_a"] ["_law_p","_law_a"] (Zad Zdq):=⟨rfl,rfl,rfl,by decide +kernel,rfl,by decide +kernel,by decide +kernel⟩
theorem Zh8:FnScope ["_law_bag_here","_law_p","_law_high","_law_wide","_law_thin","_law_rows_here","_law_i","_law_row","_law_j","_law_number_here"] ["_law_bag_here","_law_p","_law_high","_law_wide"] (Zad Zdk):=⟨rfl,rfl,rfl,by decide +kernel,rfl,by decide +kernel,by decide +kernel⟩
theorem Zg8:FnScope ["_law_bag_here","_law_p","_law_high","_law_wide","_law_rows_here","_law_a"] ["_law_bag_here","_law_p","_law_high","_law_wide"] (Zad Zc2):=⟨rfl,rfl,rfl,by decide +kernel,rfl,by decide +kernel,by decide +kernel⟩
theorem Zic:FnScope ["_law_table_here"] ["_law_table_here"] (Zad Zdo):=⟨rfl,rfl,rfl,by decide +kernel,rfl,by decide +kernel,by decide +kernel⟩
theorem Zf2:FnScope ["_law_p","_law_one","_law_other","_law_rows_here","_law_row","_law_made","_law_j","_law_number_here","_law_k"] ["_law_p","_law_one","_law_other"] (Zad Zb8):=⟨rfl,rfl,rfl,by decide +kernel,rfl,by decide +kernel,by decide +kernel⟩
theorem Zf1:FnScope ["_law_p","_law_table_here","_law_high","_law_wide","_law_rows_here","_law_done","_law_column","_law_some","_law_back_here","_law_k","_law_less"] ["_law_p","_law_table_here"] (Zad Zb7):=⟨rfl,rfl,rfl,by decide +kernel,rfl,by decide +kernel,by decide +kernel⟩
theorem Zun:FnScope ["_law_script","_law_number_here","_law_cell_here","_law_bag_here","_law_p","_law_ground","_law_most_here","_law_high","_law_table_here","_law_led","_law_inside","_law_column"] ["_law_script"] (Zad Zj4):=⟨rfl,rfl,rfl,by decide +kernel,rfl,by decide +kernel,by decide +kernel⟩
theorem Zjh:FnScope ["ground","one","other","rows","columns"] ["ground","one","other"] (Zad Zee):=⟨rfl,rfl,rfl,by decide +kernel,rfl,by decide +kernel,by decide +kernel⟩
theorem Zg6:FnScope ["ground","row","column","tops","bottom","other_tops","other_bottom"] ["ground","row","column"] (Zad Zc0):=⟨rfl,rfl,rfl,by decide +kernel,rfl,by decide +kernel,by decide +kernel⟩
theorem Ze6:FnScope ["table","high","wide","rows"] ["table"] (Zad Zbv):=⟨rfl,rfl,rfl,by decide +kernel,rfl,by decide +kernel,by decide +kernel⟩
theorem Zgh:FnScope ["_law_one","_law_other"] ["_law_one","_law_other"] (Zad Zcl):=⟨rfl,rfl,rfl,by decide +kernel,rfl,by decide +kernel,by decide +kernel⟩
theorem Zjo:FnScope ["ground","table","high","wide","given","steps","found"] ["ground","table"] (Zad Zel):=⟨rfl,rfl,rfl,by decide +kernel,rfl,by decide +kernel,by decide +kernel⟩
theorem Zk4:FnScope ["ground","table","column"] ["ground","table","column"] (Zad Zfq):=⟨rfl,rfl,rfl,by decide +kernel,rfl,by decide +kernel,by decide +kernel⟩
theorem Zgj:FnScope ["ground","table","columns","high","wide","given","joined","rows","places","nought","found","row","place"] ["ground","table","columns"] (Zad Zcn):=⟨rfl,rfl,rfl,by decide +kernel,rfl,by decide +kernel,by decide +kernel⟩
theorem Zh7:FnScope ["_law_p","_law_found","_law_due"] ["_law_p","_law_found","_law_due"] (Zad Zdj):=⟨rfl,rfl,rfl,by decide +kernel,rfl,by decide +kernel,by decide +kernel⟩
theorem Zia:FnScope ["_law_p","_law_found","_law_due","_law_row"] ["_law_p","_law_found","_law_due"] (Zad Zdm):=⟨rfl,rfl,rfl,by decide +kernel,rfl,by decide +kernel,by decide +kernel⟩
theorem Zh9:FnScope ["_law_bag_here","_law_p"] ["_law_bag_here","_law_p"] (Zad Zdl):=⟨rfl,rfl,rfl,by decide +kernel,rfl,by decide +kernel,by decide +kernel⟩
theorem Zha:FnScope ["_law_p","_law_many"] ["_law_p","_law_many"] (Zad Zc4):=⟨rfl,rfl,rfl,by decide +kernel,rfl,by decide +kernel,by decide +kernel⟩
theorem Zea:FnScope ["_law_ground","_law_p","_law_table_here","_law_handed","_law_full","_law_again","_law_found","_law_row"] ["_law_ground","_law_p","_law_table_here"] (Zad Zbg):=⟨rfl,rfl,rfl,by decide +kernel,rfl,by decide +kernel,by decide +kernel⟩
theorem Ze0:FnScope ["_law_ground","_law_p","_law_table_here","_law_column","_law_handed","_law_fits","_law_found"] ["_law_ground","_law_p","_law_table_here","_law_column"] (Zad Zbl):=⟨rfl,rfl,rfl,by decide +kernel,rfl,by decide +kernel,by decide +kernel⟩
structure Txt (K:PySem.W.Frag) (mg:Str->Option Value) (C:Addr):Prop where
 cl_Ground:Cls K C
 nP:NoAttr K C "prime"
 n_abs:mg "abs" = none
 n_all:mg "all" = none
 n_isinstance:mg "isinstance" = none
 n_int:mg "int" = none
 n_bool:mg "bool" = none
 n_tuple:mg "tuple" = none
 n_range:mg "range" = none
 n_len:mg "len" = none
 n_list:mg "list" = none
 n_zip:mg "zip" = none
 n_sum:mg "sum" = none
 n_enumerate:mg "enumerate" = none
 n_min:mg "min" = none
 n_reversed:mg "reversed" = none
 n_max:mg "max" = none
 n_any:mg "any" = none
 g_LARGEST_PRIME:∃ t,mg "LARGEST_PRIME" = some (.int 97 t)
 g_LONG:∃ t,mg "LONG" = some (.int 4000 t)
 g_LEADING:∃ t,mg "LEADING" = some (.int 126 t)
def BagV (a b:Int):HO:=.lst [.int a,.int b]
def Bag (H:Hp) (l:Addr):Prop:=∃ a b:Int,H l = some (BagV a b)/\0<=b/\b < 2147483647
def Zpp (K:PySem.W.Frag):Sp:=λvs H Q _=>∃ (a:Addr) (ns:List Int) (k:Int),vs = [.ref a,.int k]/\SqL K H a (ns.map V.int)/\ns.length<=63/\0<=k/\∀ c,Q (.int c) H
def spBag:Sp:=λvs H Q _=>∃ c:Int,vs = [.int c]/\∀ (l:Addr) (a b:Int),H l = none->0<=b->b < 2147483647->Q (.ref l) (upd H l (BagV a b))
def Zgf:Sp:=λvs H Q _=>∃ (l:Addr) (a b n:Int),vs = [.ref l,.int n]/\H l = some (BagV a b)/\0<=b/\b < 2147483647/\0 < n/\n < 1000000000 /\
 ∀ (r a' b':Int),0<=r->r < n->0<=b'->b' < 2147483647->Q (.int r) (upd H l (BagV a' b'))
section
variable {P:Program} {w:World} {K:PySem.W.Frag} {mg:Str->Option Value} {base:Heap} {C:Addr}
theorem ok_cell {f:Addr} {fd:FuncData} (F:Fun K "_law_cell" "_law_cell" Zdp f fd) (T:Txt K mg C):FnOk P w K mg base CX0 1 f fd ["_law_script","_law_k"] (Zpp K):=by
 have nd:=Zid.nd;refine F.ok Zid (λvs H Q E h=>?_) (λcdv A outer s H vs Q E hr h=>?_)
 .obtain ⟨a,ns,k,rfl,_⟩:=h;rfl
 .obtain ⟨a,ns,k,rfl,hS,hl,h0,q⟩:=h;refine ⟨_,((@Za4 _ _ _ _ _ _ _ _ (Zai Zi3 (pv 1) (Zcj Zb5 rfl T.n_len Jdq ((pv 0)<&>Zaa)) (Zan _)) (~~~(Zat<|>(pv 0)<||>(pv 1))) Zao)<*>(~~~Zac)),?_⟩;walk_at "wp";refine ⟨_,.inl hS,Zdz (λhc=>?_) (λ_=>q 0)⟩;have hc:=Ja7 hc;rw [Jab] at hc;refine ⟨_,hS,V.int (ns[k.toNat]'(by omega)),Zcx h0 ?_,q _⟩;rw [Jad,Jaa (by omega)];rfl
theorem cpow (k:Int) (h0:0<=k) (h1:k<=1000):CPow 10 k:=⟨h0,by omega,by decide⟩
theorem Zli (c n:Int) (h:0 < n):0<=c % n:=Jbr _ (by omega)
theorem Zlj (c n:Int) (h:0 < n):c % n < n:=Jbg _ h
theorem ok_bag {f:Addr} {fd:FuncData} (F:Fun K "_law_bag" "_law_bag" Zei f fd) (T:Txt K mg C):FnOk P w K mg base CX0 1 f fd ["_law_cell_here"] spBag:=by
 have nd:=Zjl.nd;refine F.ok Zjl (λvs H Q E h=>?_) (λcdv A outer s H vs Q E hr h=>?_)
 .obtain ⟨c,rfl,_⟩:=h;rfl
 .obtain ⟨c,rfl,q⟩:=h;refine ⟨_,((@Za4 _ _ _ _ _ _ _ _ (Zai op_ge (pv 0) (Zuv<|>Zac<&&>Zac) (Zan _)) (~~~(@Zce _ _ _ _ ((pv 0)<&>((Zct<|>(pv 0)<&&>Zac)<&>Zaa)))) Zao)<*>(~~~(@Zce _ _ _ _ (Zac<&>((Zct<|>(Zdf<|>(Zjt<|>(Zct<|>(pv 0)<&&>Zac)<&&>Zac)<&&>Zac)<&&>Zac)<&>Zaa))))),?_⟩;walk_at "wp";refine ⟨cpow _ (by decide) (by decide),Zdz (λ_=>?_) (λ_=>?_)⟩
  .exact ⟨by decide,by decide,λp hp=>q p _ _ hp (Zli _ _ (by decide)) (Zlj _ _ (by decide))⟩
  .exact ⟨by decide,.inr ⟨by decide,by decide⟩,by decide,by decide,λp hp=>q p _ _ hp (Zli _ _ (by decide)) (Zlj _ _ (by decide))⟩
theorem ok_draw {f:Addr} {fd:FuncData} (F:Fun K "_law_draw" "_law_draw" Zdn f fd) (T:Txt K mg C):FnOk P w K mg base CX0 1 f fd ["_law_bag_here","_law_many"] Zgf:=by
 have nd:=Zib.nd;refine F.ok Zib (λvs H Q E h=>?_) (λcdv A outer s H vs Q E hr h=>?_)
 .obtain ⟨l,a,b,n,rfl,_⟩:=h;rfl
 .obtain ⟨l,a,b,n,rfl,hl,b0,b1,n0,n1,q⟩:=h;refine ⟨_,((@Za4 _ _ _ _ _ _ _ _ (Zai Ze4 (Zat<|>(pv 0)<||>Zac) Zac (Zan _)) ((Zar (i:=2) nd rfl (Or.inl rfl) (Zct<|>(Zat<|>(pv 0)<||>Zac)<&&>(pv 1)))<*>((Zbm (Zj7<|>(Zat<|>(pv 0)<||>Zac)<&&>(pv 1)) (Zf4 (pv 0) Zac Zc6))<*>(~~~(pv 2)))) Zao)<*>((Zbm (Zct<|>(Zdf<|>(Zjt<|>(Zat<|>(pv 0)<||>Zac)<&&>Zac)<&&>Zac)<&&>Zac) (Zf4 (pv 0) Zac Zc6))<*>(~~~(Zct<|>(Zj7<|>(Zct<|>(Zjt<|>(Zat<|>(pv 0)<||>Zac)<&&>(Zdf<|>(Zj7<|>(Zat<|>(pv 0)<||>Zac)<&&>Zac)<&&>Zac))<&&>Zac)<&&>Zac)<&&>(pv 1))))),?_⟩;walk_at "wp";refine ⟨_,SqL.of hl,_,rfl,_,rfl,Zdz (λhc=>?_) (λhc=>?_)⟩
  .refine ⟨_,SqL.of hl,_,rfl,_,rfl,n0,_,SqL.of hl,_,rfl,_,rfl,⟨n0,by omega⟩,_,hl,_,rfl,?_⟩;exact q _ _ _ (Zli _ _ n0) (Zlj _ _ n0) b0 b1
  .refine ⟨_,SqL.of hl,_,rfl,_,rfl,.inr ⟨by decide,by decide⟩,by decide,_,hl,_,rfl,_,SqL.of Zab,_,rfl,_,SqL.of Zab,_,rfl,_,rfl,⟨by decide,by decide⟩,_,rfl,?_⟩;have h1:=Zli (b * 48271 + 4099) 2147483647 (by decide);have h2:=Zlj (b * 48271 + 4099) 2147483647 (by decide);refine ⟨.inl ⟨by omega,by omega⟩,by decide,⟨by decide,by decide⟩,n0,?_⟩;exact q _ _ _ (Zli _ _ n0) (Zlj _ _ n0) h1 h2
theorem Bag.ne {H:Hp} {l p:Addr} (h:Bag H l) (hp:H p = none):p ≠ l:=by
 obtain ⟨a,b,e,_⟩:=h;exact (Zaj e hp).symm
theorem Bag.new {H:Hp} {l p:Addr} {o:HO} (h:Bag H l) (hp:p ≠ l):Bag (upd H p o) l:=by
 obtain ⟨a,b,e,h1,h2⟩:=h;exact ⟨a,b,by rw [Zal hp.symm]; exact e,h1,h2⟩
theorem Bag.set {H:Hp} {l:Addr} {a b:Int} (h1:0<=b) (h2:b < 2147483647):Bag (upd H l (BagV a b)) l:=⟨a,b,Zab,h1,h2⟩
theorem Bag.same {H H':Hp} {l:Addr} (b:Bag H l) (s:Same H H'):Bag H' l:=by
 obtain ⟨x,y,e,h1,h2⟩:=b;exact ⟨x,y,s _ _ e,h1,h2⟩
theorem Bag.draw {H:Hp} {l:Addr} {n:Int} {Q:VK} {E:XK} (b:Bag H l) (h0:0 < n) (h1:n < 1000000000) (q:∀ (r:Int) (H':Hp),0<=r->r < n->Ext l H H'->Bag H' l->Q (.int r) H'):Zgf [.ref l,.int n] H Q E:=by
 obtain ⟨x,y,e,y0,y1⟩:=b;exact ⟨l,x,y,n,rfl,e,y0,y1,h0,h1,λr a' b' r0 r1 c0 c1=>q r _ r0 r1 Ext.set (Bag.set c0 c1)⟩
theorem cutA {A X:TS} {D:Ends} {σ:L2.St} {H:Hp} (h:∀ X',X' = X->Zi7 A X' D σ H):Zi7 A X D σ H:=h X rfl
theorem iteP {c A B:Prop} [Decidable c] (hc:c) (h:A):if c then A else B:=by rw [if_pos hc]; exact h
theorem Zfy {c A B:Prop} [Decidable c] (hc:¬ c) (h:B):if c then A else B:=by rw [if_neg hc]; exact h
theorem Zrr {a D:Addr} {xs:List V} {fr:List (Str × Nat)} {σ:L2.St} {te:TE} {H1:Hp} {Q:VK} (fb:Nat->Bool) (ha:H1 a = some (.lst xs)) (hD:H1 D = none) (hn:xs.length<=1000)
  (h:∀ (i:Nat) x H (Q:VK),xs[i]? = some x->Same H1 H->(∀ H',Same H H'->Q (.bl (fb i)) H')->te (some x :: Zbp fr σ) H Q)
  (hQ:∀ H',Same H1 H'->H' D = some (.lst (((List.range xs.length).map fb).map V.bl))->Q (.ref D) H'):Zcg (Zb4 0) Zhq te (Itl K a) D (Zgr 1 fr σ) H1 Q:=by
 refine Zki (xs:=xs) (λi vs H=>Same H1 H/\H D = some (.lst vs)/\vs = ((List.range i).map fb).map V.bl) ⟨Same.new hD,Zab,rfl⟩ (λi vs H _ p=>SqL.of (p.1 _ _ ha)) ?_ (λvs H ⟨s,e,hv⟩=>hQ H s (by rw [e,hv]));rintro i x vs σ' H hi hx sh ⟨s,e,rfl⟩;obtain ⟨z,rfl⟩:=sh.one;simp only [Zf6,Zb4,Zhq,Jbi,Jdf];refine h i x H _ hx s λH' s'=>?_;exact Zo0 (ws:=((List.range (i + 1)).map fb).map V.bl) hi Sh.mk1 (s' _ _ e) (Zau (by rw [Jab,Jab,Jao]; omega)) ⟨(s.trans s').upd hD,by rw [Zab,Jc4,Jbe,Jbe]; rfl,rfl⟩
theorem Zuf (n:Nat):((List.range n).map λ_=>true).all id = true:=by
 rw [Jcj];intro b hb;obtain ⟨_,_,rfl⟩:=Jap.mp hb;rfl
def Zf7:Sp:=λvs H Q _=>∃ i:Int,vs = [.int i]/\Q (.bl true) H
theorem Zs9 {f:Addr} {fd:FuncData} (F:Fun K "is_whole" "is_whole" Zdr f fd) (T:Txt K mg C):FnOk P w K mg base CX0 1 f fd ["thing"] Zf7:=by
 have nd:=Zif.nd;refine F.ok Zif (λvs H Q E h=>?_) (λcdv A outer s H vs Q E hr h=>?_)
 .obtain ⟨i,rfl,_⟩:=h;rfl
 .obtain ⟨i,rfl,q⟩:=h;refine ⟨_,(~~~(Zjs (Zcj Zb6 rfl T.n_isinstance Jc5 ((pv 0)<&>((Zla rfl T.n_int boot_int)<&>Zaa))) (Zjr (Zur (Zcj Zb6 rfl T.n_isinstance Jc5 ((pv 0)<&>((Zla rfl T.n_bool boot_bool)<&>Zaa))))))),?_⟩;walk_at "wp";exact ⟨_,_,⟨rfl,rfl⟩,_,rfl,_,.int i,_,Zln K,iteT ⟨_,_,⟨rfl,rfl⟩,_,rfl,_,.int i,_,Zju K,q⟩⟩
theorem Zfa {k:Nat} {A:Around} (hr:Room k A):A.units + 8 < cLine:=by have:=hr.units; omega
theorem Zrq {lo:Int} {n:Nat} {D:Addr} {fr:List (Str × Nat)} {σ:L2.St} {te:TE} {H1:Hp} {Q:VK} (fb:Nat->Bool) (hD:H1 D = none) (hn:n<=1000)
  (h:∀ (i:Nat) H (Q:VK),i < n->Same H1 H->(∀ H',Same H H'->Q (.bl (fb i)) H')->te (some (.int (lo + (i:Nat))) :: Zbp fr σ) H Q)
  (hQ:∀ H',Same H1 H'->H' D = some (.lst (((List.range n).map fb).map V.bl))->Q (.ref D) H'):Zcg (Zb4 0) Zhq te (Itr lo n) D (Zgr 1 fr σ) H1 Q:=by
 refine Zgo (λi vs H=>Same H1 H/\H D = some (.lst vs)/\vs = ((List.range i).map fb).map V.bl) ⟨Same.new hD,Zab,rfl⟩ ?_ (λvs H ⟨s,e,hv⟩=>hQ H s (by rw [e,hv]));rintro i x vs σ' H hi rfl sh ⟨s,e,rfl⟩;obtain ⟨z,rfl⟩:=sh.one;simp only [Zf6,Zb4,Zhq,Jbi,Jdf];refine h i H _ hi s λH' s'=>?_;exact Zo0 (ws:=((List.range (i + 1)).map fb).map V.bl) hi Sh.mk1 (s' _ _ e) (Zau (by rw [Jab,Jab,Jao]; omega)) ⟨(s.trans s').upd hD,by rw [Zab,Jc4,Jbe,Jbe]; rfl,rfl⟩
def Top (a:Int):Prop:=a.natAbs < 2 ^ 4000
theorem Top.of {a:Int} (h:a.natAbs<=100000000000000000000000000000000000000000000000000000000000000000000000000000000):Top a:=Jbo h (by decide +kernel)
def Zfi (p:Int):Prop:=1 < p/\p<=97/\∀ d:Int,2<=d->d < p->p % d ≠ 0
def Zmj:Sp:=λvs H Q _=>∃ p:Int,vs = [.int p]/\Zfi p/\∀ H',Same H H'->Q (.bl true) H'
theorem Zte {f:Addr} {fd:FuncData} (F:Fun K "is_prime" "is_prime" Zds f fd) (T:Txt K mg C):FnOk P w K mg base CX0 1 f fd ["number"] Zmj:=by
 have nd:=Zig.nd;refine F.ok Zig (λvs H Q E h=>?_) (λcdv A outer s H vs Q E hr h=>?_)
 .obtain ⟨p,rfl,_⟩:=h;rfl
 .obtain ⟨p,rfl,⟨p1,p2,p3⟩,q⟩:=h;refine ⟨_,(~~~(Zjs (Zcs Ze4 (pv 0) Zac (Zan _)) (Zjr (Zcj (Zn8 rfl) rfl T.n_all boot_all ((Za6 (own:=["divisor"]) (fr:=[("number",0)]) rfl (Zb0 (by kernel_rfl)) (pi_r2 rfl T.n_range (Zac<&>((pv 0)<&>Zaa))) (λ_ _ _ _=>⟨(@Zae _ _ 0 _ (show (["divisor","number"]:List Str).Nodup by decide +kernel) rfl (Or.inl rfl) (Or.inr rfl)),Za1,(Zcs Zgn (Zct<|>(pv 1)<&&>(pv 0)) Zac (Zan _))⟩))<&>Zaa))))),?_⟩;walk_at "wp";refine iteP (Jbc p1) ⟨_,rfl,2,p,rfl,⟨by decide,by decide,by omega,by omega⟩,λD hD=>Zrq (λ_=>true) hD (by omega) (λi H' Q' hi s' q'=>?_) λH' s' e'=>⟨D,rfl,_,SqL.of e',?_⟩⟩
  .have h0:(0:Int) < 2 + (i:Int):=by omega
   have hne:=p3 (2 + (i:Int)) (by omega) (by omega);refine ⟨_,rfl,_,rfl,_,_,rfl,rfl,h0,rfl,?_⟩;have:(!decide (V.int (p % (2 + (i:Int))) = V.int 0)) = true:=by simp only [V.int.injEq,Jb4 hne]; rfl
   rw [this];exact q' H' (Same.refl _)
  .rw [Zuf];exact q H' s'
def GroundP (p:Int):Prop:=p = 0\/Zfi p
def Zmf:Sp:=λvs H Q _=>∃ p:Int,vs = [.int p]/\GroundP p/\∀ H',Same H H'->Q (.bl true) H'
theorem Zta {f:Addr} {fd:FuncData} (F:Fun K "tells_ground" "tells_ground" Zbw f fd) (T:Txt K mg C) (C_is_whole:Cal P w K mg base "is_whole" 1 Zf7) (C_is_prime:Cal P w K mg base "is_prime" 1 Zmj):FnOk P w K mg base CX0 2 f fd ["thing"] Zmf:=by
 have nd:=Ze7.nd;refine F.ok Ze7 (λvs H Q E h=>?_) (λcdv A outer s H vs Q E hr h=>?_)
 .obtain ⟨p,rfl,_⟩:=h;rfl
 .obtain ⟨p,rfl,hp,q⟩:=h;have p0:0<=p:=by rcases hp with rfl | ⟨h,_⟩ <;> omega
  have p97:p<=97:=by rcases hp with rfl | ⟨_,h,_⟩ <;> omega
  refine ⟨_,((@Za4 _ _ _ _ _ _ _ _ (PW.pt (Zhl (Zd3 (Zd2 (Za5 C_is_whole hr.m rfl ((pv 0)<&>Zaa)))) (Zgk (Zd3 (Zsv op_le op_le Zac (pv 0) (Zht rfl T.g_LARGEST_PRIME)))))) (~~~Zes) Zao)<*>(~~~(pe_or (Zcs Zem (pv 0) Zac (Zan _)) (Zjr (Za5 C_is_prime hr.m rfl ((pv 0)<&>Zaa)))))),?_⟩;walk_at "wp";refine ⟨p,rfl,true,rfl,Znu (iteP (Jbc p0) (Zfy (by rw [Jbc p97]; decide) (Zdz (λ_=>q H (Same.refl _)) (λhc=>?_))))⟩;rcases hp with rfl | hp
  .exact absurd (Jbc rfl) hc
  .exact ⟨p,rfl,hp,q⟩
def Zi9:Sp:=λvs H Q _=>∃ a b:Int,vs = [.int a,.int b]/\Top a/\0 < b/\b.natAbs<=100000000000000000000000000000000/\∀ t,H t = none->Q (.ref t) (upd H t (.tup [.int (nrm a b).1,.int (nrm a b).2]))
def Zu3 (p:Int):List (Str × V):=Zk6 "prime" (.int p) []
theorem Zep (p:Int):(Zu3 p).lookup ("prime" : Str) = some (.int p):=by
 unfold Zu3;rw [Zeu,if_pos rfl]
theorem Zrh (p:Int) {x:Str} (h1:¬ x = "prime"):(Zu3 p).lookup x = none:=by
 unfold Zu3;rw [Zeu,if_neg h1];rfl
def Zpn (C:Addr):Sp:=λvs H Q _=>∃ (g dx:Addr) (p:Int),vs = [.ref g,.int p]/\H g = some (.ins C dx [])/\GroundP p/\∀ (H':Hp),Ext g H H'->H' g = some (.ins C dx (Zu3 p))->Q .non H'
theorem ok_init {f:Addr} {fd:FuncData} (F:Fun K "__init__" "Ground.__init__" Zb9 f fd) (T:Txt K mg C) (C_tells_ground:Cal P w K mg base "tells_ground" 2 Zmf):FnOk P w K mg base CX0 3 f fd ["self","prime"] (Zpn C):=by
 have nd:=Zf3.nd;refine F.ok Zf3 (λvs H Q E h=>?_) (λcdv A outer s H vs Q E hr h=>?_)
 .obtain ⟨g,dx,p,rfl,_⟩:=h;rfl
 .obtain ⟨g,dx,p,rfl,hg,hp,q⟩:=h;refine ⟨_,((@Za4 _ _ _ _ _ _ _ _ (Zd3 (Zd2 (Za5 C_tells_ground hr.m rfl ((pv 1)<&>Zaa)))) (@Zas _ _ _ Zfr) Zao)<*>(@Zas _ _ _ (ps_fld (pv 0) (pv 1) rfl))),?_⟩;walk_at "wp";refine ⟨p,rfl,hp,λH1 s1=>⟨true,rfl,Znu ⟨C,dx,[],s1 _ _ hg,T.cl_Ground,T.nP,by show 0 < 1000; decide,?_⟩⟩⟩;exact q _ (λb o nb e=>by rw [Zal nb]; exact s1 _ _ e) Zab
def Zpo:Sp:=λvs H Q _=>∃ a b:Int,vs = [.int a,.int b]/\Q (.int (Int.gcd a b:Int)) H
theorem ok_gcd {f:Addr} {fd:FuncData} (F:Fun K "_law_gcd" "_law_gcd" Zeh f fd) (T:Txt K mg C):FnOk P w K mg base CX0 1 f fd ["_law_one","_law_two"] Zpo:=by
 have nd:=Zjk.nd;refine F.ok Zjk (λvs H Q E h=>?_) (λcdv A outer s H vs Q E hr h=>?_)
 .obtain ⟨a,b,rfl,_⟩:=h;rfl
 .obtain ⟨a,b,rfl,q⟩:=h;refine ⟨_,((Zar (i:=0) nd rfl (Or.inl rfl) (Zcj Zd7 rfl T.n_abs Jfk ((pv 0)<&>Zaa)))<*>((Zar (i:=1) nd rfl (Or.inl rfl) (Zcj Zd7 rfl T.n_abs Jfk ((pv 1)<&>Zaa)))<*>((Zgl Ja8 (Zai Ze4 (pv 1) Zac (Zan _)) ((Zar (i:=2) nd rfl (Or.inl rfl) (Zct<|>(pv 0)<&&>(pv 1)))<*>((Zar (i:=0) nd rfl (Or.inl rfl) (pv 1))<*>(@Zas _ _ _ (Zar (i:=1) nd rfl (Or.inl rfl) (pv 2))))))<*>(~~~(pv 0))))),?_⟩;walk_at "wp";have ea:(if a < 0 then -a else a) = (a.natAbs:Int):=by split <;> omega
  have eb:(if b < 0 then -b else b) = (b.natAbs:Int):=by split <;> omega
  rw [ea,eb];refine ⟨λn σ H2=>∃ (x y:Int) (v:Option V),σ = [some (.int x),some (.int y),v]/\H2 = H/\0<=x/\0<=y/\n = y.toNat/\Int.gcd x y = Int.gcd a b,⟨_,_,_,none,rfl,rfl,oz74,oz74,rfl,by unfold Int.gcd; rfl⟩,?_⟩;rintro n σ H2 ⟨x,y,v,rfl,rfl,hx,hy,rfl,hg⟩;walk_at "wp";refine Zdz (λhc=>?_) (λhc=>?_)
  .have y1:0 < y:=Ja7 hc;have l1:=Jbr x (show y ≠ 0 by omega);have l2:=Jbg x y1;refine ⟨_,λ_ _ h=>h,?_⟩;walk_at "wp";exact ⟨y1,_,by omega,y,x % y,_,⟨rfl,rfl,rfl⟩,Zld y1,l1,rfl,by rw [Znz]; exact hg⟩
  .have hy0:¬ 0 < y:=λz=>hc (Jbc z);have hy0:y = 0:=by exact Zlc hy hy0
   subst hy0;have e:x = (Int.gcd a b:Int):=by
    rw [<- hg,Int.gcd_zero];omega
   rw [<- e] at q;exact q
theorem Zp7 {f:Addr} {fd:FuncData} (F:Fun K "_law_whole" "_law_whole" Zc1 f fd) (T:Txt K mg C):FnOk P w K mg base CX0 1 f fd ["_law_found"] Zf7:=by
 have nd:=Zg7.nd;refine F.ok Zg7 (λvs H Q E h=>?_) (λcdv A outer s H vs Q E hr h=>?_)
 .obtain ⟨i,rfl,_⟩:=h;rfl
 .obtain ⟨i,rfl,q⟩:=h;refine ⟨_,(~~~(Zjs (Zcj Zb6 rfl T.n_isinstance Jc5 ((pv 0)<&>((Zla rfl T.n_int boot_int)<&>Zaa))) (Zjr (Zur (Zcj Zb6 rfl T.n_isinstance Jc5 ((pv 0)<&>((Zla rfl T.n_bool boot_bool)<&>Zaa))))))),?_⟩;walk_at "wp";exact ⟨_,_,⟨rfl,rfl⟩,_,rfl,_,.int i,_,Zln K,iteT ⟨_,_,⟨rfl,rfl⟩,_,rfl,_,.int i,_,Zju K,q⟩⟩
noncomputable def goodB (p:Int):Bool:=p == 0 || (decide (1 < p) && decide (p<=97) && (List.range 98).all λd=>decide ((d:Int) < 2) || decide (p<=(d:Int)) || decide (p % (d:Int) ≠ 0))
theorem Ztv {p:Int} (h:goodB p = true):GroundP p:=by
 unfold goodB at h;simp only [Jdh,Jb7,Jbx,decide_eq_true_eq,Jcj,Ja4] at h;rcases h with h | ⟨⟨h1,h2⟩,h3⟩
 .exact .inl h
 .refine .inr ⟨h1,h2,λd d2 dp=>?_⟩;have:=h3 d.toNat (by omega);rw [show ((d.toNat:Nat):Int) = d by omega] at this;rcases this with (h | h) | h
  .omega
  .omega
  .exact h
theorem Zk9 {L:List Int} (h:L.all goodB = true) {i:Int} (i0:0<=i) (i1:i < L.length):∃ p,atI (L.map V.int) i = some (.int p)/\GroundP p:=by
 have hi:i.toNat < L.length:=by omega
 exact ⟨_,Zcx i0 (atZ_get hi),Ztv (Jcj.mp h _ (atZ_mem hi))⟩
def spPr:Sp:=λvs H Q _=>∃ l:Addr,vs = [.ref l]/\Bag H l/\∀ (p:Int) (H':Hp),Ext l H H'->Bag H' l->GroundP p->Q (.int p) H'
theorem Zp9 {f:Addr} {fd:FuncData} (F:Fun K "_law_prime" "_law_prime" Zc3 f fd) (T:Txt K mg C) (C_law_draw:Cal P w K mg base "_law_draw" 1 Zgf):FnOk P w K mg base CX0 2 f fd ["_law_bag_here"] spPr:=by
 have nd:=Zg9.nd;refine F.ok Zg9 (λvs H Q E h=>?_) (λcdv A outer s H vs Q E hr h=>?_)
 .obtain ⟨l,rfl,_⟩:=h;rfl
 .obtain ⟨l,rfl,hb,q⟩:=h;refine ⟨_,((Zar (i:=1) nd rfl (Or.inl rfl) (Za5 C_law_draw hr.m rfl ((pv 0)<&>(Zac<&>Zaa))))<*>((@Za4 _ _ _ _ _ _ _ _ (Zai Zi3 (pv 1) Zac (Zan _)) (~~~(Zat<|>(@Zce _ _ _ _ (Zac<&>(Zac<&>(Zac<&>(Zac<&>(Zac<&>Zaa))))))<||>(pv 1))) Zao)<*>(~~~(Zat<|>(@Zce _ _ _ _ (Zac<&>(Zac<&>(Zac<&>(Zac<&>(Zac<&>(Zac<&>(Zac<&>(Zac<&>(Zac<&>(Zac<&>(Zac<&>(Zac<&>(Zac<&>(Zac<&>(Zac<&>(Zac<&>(Zac<&>(Zac<&>(Zac<&>(Zac<&>(Zac<&>(Zac<&>Zaa)))))))))))))))))))))))<||>(Za5 C_law_draw hr.m rfl ((pv 0)<&>(Zac<&>Zaa))))))),?_⟩;walk_at "wp";refine hb.draw (by decide) (by decide) λz H2 z0 z1 e2 b2=>⟨z,rfl,Zdz (λhz=>?_) (λhz=>?_)⟩
  .have hz:=Ja7 hz;refine ⟨by decide,λp1 hp1=>?_⟩;obtain ⟨p,hp,gp⟩:=Zk9 (L:=[0,2,3,5,97]) (by decide +kernel) z0 (show z < (5:Nat) by omega);have n1:p1 ≠ l:=b2.ne hp1;exact ⟨_,z,rfl,SqL.of Zab,_,hp,q p _ (e2.trans (Ext.new hp1)) (b2.new n1) gp⟩
  .refine ⟨by decide,λp1 hp1=>?_⟩;have n1:p1 ≠ l:=b2.ne hp1;refine (b2.new n1).draw (by decide) (by decide) λy H3 y0 y1 e3 b3=>?_;obtain ⟨p,hp,gp⟩:=Zk9 (L:=[0,7,11,13,17,19,23,29,31,37,41,43,47,53,59,61,67,71,73,79,83,89]) (by decide +kernel) y0 (show y < (22:Nat) by omega);exact ⟨_,y,rfl,SqL.of (e3 _ _ n1 Zab),_,hp,q p _ ((e2.trans (Ext.new hp1)).trans e3) b3 gp⟩
def NumV (H:Hp) (p:Int) (v:V) (x:Int × Int):Prop:=if p = 0 then ∃ t,v = .ref t/\H t = some (.tup [.int x.1,.int x.2]) else v = .int x.1
theorem NumV.same {H H':Hp} {p:Int} {v:V} {x:Int × Int} (h:NumV H p v x) (s:Same H H'):NumV H' p v x:=by
 unfold NumV at *;split
 .rename_i hp
  rw [if_pos hp] at h;obtain ⟨t,e,ht⟩:=h;exact ⟨t,e,s _ _ ht⟩
 .rename_i hp
  rw [if_neg hp] at h;exact h
theorem NumV.tup {H:Hp} {p:Int} {t:Addr} {x:Int × Int} (hp:p = 0) (h:H t = some (.tup [.int x.1,.int x.2])):NumV H p (.ref t) x:=by
 unfold NumV;rw [if_pos hp];exact ⟨t,rfl,h⟩
theorem NumV.of {H:Hp} {p:Int} {x:Int × Int} (hp:¬ p = 0):NumV H p (.int x.1) x:=by
 unfold NumV;rw [if_neg hp]
theorem NumV.ref {H:Hp} {p:Int} {v:V} {x:Int × Int} (h:NumV H p v x) (hp:p = 0):∃ t,v = .ref t/\H t = some (.tup [.int x.1,.int x.2]):=by
 unfold NumV at h;rw [if_pos hp] at h;exact h
theorem NumV.int {H:Hp} {p:Int} {v:V} {x:Int × Int} (h:NumV H p v x) (hp:¬ p = 0):v = .int x.1:=by
 unfold NumV at h;rw [if_neg hp] at h;exact h
theorem GroundP.lo {p:Int} (h:GroundP p):0<=p:=by rcases h with rfl | ⟨h,_⟩ <;> omega
theorem GroundP.hi {p:Int} (h:GroundP p):p<=97:=by rcases h with rfl | ⟨_,h,_⟩ <;> omega
def Zsl:Sp:=λvs H Q _=>∃ (l:Addr) (p:Int),vs = [.ref l,.int p]/\Bag H l/\GroundP p/\∀ (v:V) (x:Int × Int) (H':Hp),Ext l H H'->Bag H' l->NumV H' p v x->Isn p x->Bd 10000 x->Q v H'
theorem ok_lnum {f:Addr} {fd:FuncData} (F:Fun K "_law_number" "_law_number" Zcm f fd) (T:Txt K mg C) (C_law_draw:Cal P w K mg base "_law_draw" 1 Zgf) (C_law_lowest:Cal P w K mg base "_law_lowest" 2 Zi9):FnOk P w K mg base CX0 3 f fd ["_law_bag_here","_law_p"] Zsl:=by
 have nd:=Zgi.nd;refine F.ok Zgi (λvs H Q E h=>?_) (λcdv A outer s H vs Q E hr h=>?_)
 .obtain ⟨l,p,rfl,_⟩:=h;rfl
 .obtain ⟨l,p,rfl,hb,hp,q⟩:=h;have p0:=hp.lo;have p97:=hp.hi;refine ⟨_,((@Za4 _ _ _ _ _ _ _ _ (Zai Ze4 (pv 1) Zac (Zan _)) (~~~(Za5 C_law_draw hr.m rfl ((pv 0)<&>((pv 1)<&>Zaa)))) Zao)<*>((Zar (i:=2) nd rfl (Or.inl rfl) (Za5 C_law_draw hr.m rfl ((pv 0)<&>(Zac<&>Zaa))))<*>((@Za4 _ _ _ _ _ _ _ _ (Zai Zem (pv 2) Zac (Zan _)) (~~~(Za5 C_law_lowest hr.m rfl ((Zfd<|>(Za5 C_law_draw hr.m rfl ((pv 0)<&>(Zac<&>Zaa)))<&&>Zac)<&>((Zdf<|>Zac<&&>(Za5 C_law_draw hr.m rfl ((pv 0)<&>(Zac<&>Zaa))))<&>Zaa)))) Zao)<*>((@Za4 _ _ _ _ _ _ _ _ (Zai Zi3 (pv 2) Zac (Zan _)) (~~~(Za5 C_law_lowest hr.m rfl ((Zfd<|>(Za5 C_law_draw hr.m rfl ((pv 0)<&>(Zac<&>Zaa)))<&&>Zac)<&>((Zdf<|>Zac<&&>(Za5 C_law_draw hr.m rfl ((pv 0)<&>(Zac<&>Zaa))))<&>Zaa)))) Zao)<*>(~~~(Zat<|>(@Zce _ _ _ _ ((@Za9 _ _ _ _ _ (Zac<&>(Zac<&>Zaa)))<&>((@Za9 _ _ _ _ _ (Zac<&>(Zac<&>Zaa)))<&>((@Za9 _ _ _ _ _ ((Zi2 Zfz Zac)<&>(Zac<&>Zaa)))<&>((@Za9 _ _ _ _ _ (Zac<&>(Zac<&>Zaa)))<&>Zaa)))))<||>(Zfd<|>(pv 2)<&&>Zac))))))),?_⟩;walk_at "wp";refine Zdz (λhc=>?_) (λhc=>?_)
  .have hc:=Ja7 hc;refine hb.draw hc (by omega) λz H2 z0 z1 e2 b2=>?_;exact q (.int z) (z,1) H2 e2 b2 (NumV.of (x:=(z,1)) (by omega)) (.inr ⟨hc,z0,z1,rfl⟩) ⟨by show z.natAbs<=10000; omega,by show Int.natAbs 1<=10000; decide⟩
  .have hc:¬ 0 < p:=λz=>hc (Jbc z);have hp0:p = 0:=by exact Zlc p0 hc
   subst hp0;have fin:∀ (H3:Hp) (a b:Int),Ext l H H3->Bag H3 l->0 < b->a.natAbs<=10000->b.natAbs<=10000->Zi9 [.int a,.int b] H3 Q E0:=λH3 a b e3 b3 hb0 h1 h2=>by
    refine ⟨a,b,rfl,Top.of (by omega),hb0,by omega,λt ht=>?_⟩;have nt:=b3.ne ht;exact q _ (nrm a b) _ (e3.trans (Ext.new ht)) (b3.new nt) (NumV.tup rfl Zab) (Zm1 rfl hb0) (Zqj hb0 h1 h2)
   refine hb.draw (by decide) (by decide) λz H2 z0 z1 e2 b2=>⟨rfl,Zdz (λhz=>?_) (λhz=>?_)⟩
   .refine b2.draw (by decide) (by decide) λa H3 a0 a1 e3 b3=>⟨a,rfl,b3.draw (by decide) (by decide) λb H4 b0 b1 e4 b4=>⟨b,rfl,fin _ _ _ ((e2.trans e3).trans e4) b4 (by omega) (by omega) (by omega)⟩⟩
   .refine ⟨z,rfl,Zdz (λhz2=>?_) (λhz2=>?_)⟩
    .refine b2.draw (by decide) (by decide) λa H3 a0 a1 e3 b3=>⟨a,rfl,b3.draw (by decide) (by decide) λb H4 b0 b1 e4 b4=>⟨b,rfl,fin _ _ _ ((e2.trans e3).trans e4) b4 (by omega) (by omega) (by omega)⟩⟩
    .have hz2:¬ z < 4:=λw=>hz2 (Jbc w);refine ⟨by decide,λt1 h1=>⟨by decide,λt2 h2=>⟨by decide,λt3 h3=>⟨by decide,λt4 h4=>⟨by decide,λt5 h5=>⟨z,rfl,_,SqL.of Zab,?_⟩⟩⟩⟩⟩⟩;have s5:=Same.new (o:=.lst [V.ref t1,V.ref t2,V.ref t3,V.ref t4]) h5;have s4:=(Same.new (o:=.tup [V.int 2,V.int 1]) h4).trans s5;have s3:=(Same.new (o:=.tup [V.int (-1),V.int 1]) h3).trans s4;have s2:=(Same.new (o:=.tup [V.int 1,V.int 1]) h2).trans s3;have s1:=(Same.new (o:=.tup [V.int 0,V.int 1]) h1).trans s2;have hex:=e2.trans s1.ext;have hb5:=b2.same s1;have:z = 4\/z = 5\/z = 6\/z = 7:=by omega
     rcases this with rfl | rfl | rfl | rfl
     .exact ⟨_,rfl,q (.ref t1) (0,1) _ hex hb5 (NumV.tup rfl (s2 _ _ Zab)) (.inl ⟨rfl,by show (0:Int) < 1; decide,by decide⟩) ⟨by decide,by decide⟩⟩
     .exact ⟨_,rfl,q (.ref t2) (1,1) _ hex hb5 (NumV.tup rfl (s3 _ _ Zab)) (.inl ⟨rfl,by show (0:Int) < 1; decide,by decide⟩) ⟨by decide,by decide⟩⟩
     .exact ⟨_,rfl,q (.ref t3) (-1,1) _ hex hb5 (NumV.tup rfl (s4 _ _ Zab)) (.inl ⟨rfl,by show (0:Int) < 1; decide,by decide⟩) ⟨by decide,by decide⟩⟩
     .exact ⟨_,rfl,q (.ref t4) (2,1) _ hex hb5 (NumV.tup rfl (s5 _ _ Zab)) (.inl ⟨rfl,by show (0:Int) < 1; decide,by decide⟩) ⟨by decide,by decide⟩⟩
structure Two (H:Hp) (p:Int) (va vb:V) (x y:Int × Int):Prop where
 a:NumV H p va x
 b:NumV H p vb y
 hx:Isn p x
 hy:Isn p y
 bd:∃ B1 B2:Nat,Bd B1 x/\Bd B2 y/\2 * B1 * B2<=10000000000000000000000000000000
theorem Isn.one {p:Int} {x:Int × Int} {B:Nat} (h:Isn p x) (b:Bd B x):1<=B:=by
 have:=h.pos;have:=b.2;omega
theorem Zav {a b:Int} {A B:Nat} (ha:a.natAbs<=A) (hb:b.natAbs<=B):(a * b).natAbs<=A * B:=by rw [Jc9]; exact Jaz ha hb
theorem Two.big {H:Hp} {p:Int} {va vb:V} {x y:Int × Int} (h:Two H p va vb x y):Big x.1/\Big x.2/\Big y.1/\Big y.2/\(x.2 * y.2).natAbs<=100000000000000000000000000000000:=by
 obtain ⟨B1,B2,b1,b2,hB⟩:=h.bd;have o1:=Isn.one h.hx b1;have o2:=Isn.one h.hy b2;have l1:B1<=2 * B1 * B2:=by
  have:B1 * 1<=(2 * B1) * B2:=Jaz (by omega) o2;omega
 have l2:B2<=2 * B1 * B2:=by
  have:1 * B2<=(2 * B1) * B2:=Jaz (by omega) (Jag _);omega
 have q1:=b1.big (by omega);have q2:=b2.big (by omega);have q3:=Zav b1.2 b2.2;have l3:B1 * B2<=2 * B1 * B2:=Jaz (by omega) (Jag _);exact ⟨q1.1,q1.2,q2.1,q2.2,by omega⟩
theorem Two.tops {H:Hp} {p:Int} {va vb:V} {x y:Int × Int} (h:Two H p va vb x y):Top (x.1 * y.2 + y.1 * x.2)/\Top (x.1 * y.2 - y.1 * x.2)/\Top (x.1 * y.1):=by
 obtain ⟨B1,B2,b1,b2,hB⟩:=h.bd;have q1:=Zav b1.1 b2.2;have q2:=Zav b2.1 b1.2;have q3:=Zav b1.1 b2.1;rw [Je3 B2 B1] at q2;have l3:2 * B1 * B2 = 2 * (B1 * B2):=Jdm 2 B1 B2;exact ⟨Top.of (oz43 hB q1 q2 l3),Top.of (oz42 hB q1 q2 l3),Top.of (by omega)⟩
def spOp (op:Int->Int × Int->Int × Int->Int × Int):Sp:=λvs H Q _=>∃ (p:Int) (va vb:V) (x y:Int × Int),vs = [.int p,va,vb]/\GroundP p/\Two H p va vb x y/\∀ v H',Same H H'->NumV H' p v (op p x y)->Q v H'
theorem ok_add {f:Addr} {fd:FuncData} (F:Fun K "_law_add" "_law_add" Zdw f fd) (T:Txt K mg C) (C_law_lowest:Cal P w K mg base "_law_lowest" 2 Zi9):FnOk P w K mg base CX0 3 f fd ["_law_p","_law_a","_law_b"] (spOp Zc5):=by
 have nd:=Zfo.nd;refine F.ok Zfo (λvs H Q E h=>?_) (λcdv A outer s H vs Q E hr h=>?_)
 .obtain ⟨p,va,vb,x,y,rfl,_⟩:=h;rfl
 .obtain ⟨p,va,vb,x,y,rfl,hp,h2,q⟩:=h;have p0:=hp.lo;obtain ⟨g1,g2,g3,g4,g5⟩:=h2.big;refine ⟨_,((@Za4 _ _ _ _ _ _ _ _ (Zai Ze4 (pv 0) Zac (Zan _)) (~~~(Zct<|>(Zdf<|>(pv 1)<&&>(pv 2))<&&>(pv 0))) Zao)<*>(~~~(Za5 C_law_lowest hr.m rfl ((Zdf<|>(Zbb<|>(Zaq<|>(pv 1)<||>Zac)<&&>(Zaq<|>(pv 2)<||>Zac))<&&>(Zbb<|>(Zaq<|>(pv 2)<||>Zac)<&&>(Zaq<|>(pv 1)<||>Zac)))<&>((Zbb<|>(Zaq<|>(pv 1)<||>Zac)<&&>(Zaq<|>(pv 2)<||>Zac))<&>Zaa))))),?_⟩;walk_at "wp";refine Zdz (λhc=>?_) (λhc=>?_)
  .have hc:=Ja7 hc;obtain rfl:=h2.a.int (by omega);obtain rfl:=h2.b.int (by omega);refine ⟨_,rfl,_,rfl,hc,q _ H (Same.refl _) ?_⟩;have:=NumV.of (H:=H) (x:=Zc5 p x y) (show ¬ p = 0 by omega);rw [Zc5,if_neg (by omega)] at this ⊢;exact this
  .have hc:¬ 0 < p:=λz=>hc (Jbc z);have hp0:p = 0:=by exact Zlc p0 hc
   obtain ⟨ta,rfl,hta⟩:=h2.a.ref hp0;obtain ⟨tb,rfl,htb⟩:=h2.b.ref hp0;walk_at "wp";refine ⟨_,SqT.of hta,_,rfl,_,SqT.of htb,_,rfl,_,rfl,_,rfl,g1.mul g4,_,SqT.of htb,_,rfl,_,SqT.of hta,_,rfl,_,rfl,_,rfl,g3.mul g2,_,SqT.of hta,_,rfl,_,SqT.of htb,_,rfl,_,rfl,_,rfl,g2.mul g4,?_⟩;refine ⟨_,_,rfl,h2.tops.1,Jc2 h2.hx.pos h2.hy.pos,g5,λt ht=>q _ _ (Same.new ht) ?_⟩;rw [Zc5,if_pos hp0];exact NumV.tup hp0 Zab
theorem ok_mul {f:Addr} {fd:FuncData} (F:Fun K "_law_mul" "_law_mul" Zdv f fd) (T:Txt K mg C) (C_law_lowest:Cal P w K mg base "_law_lowest" 2 Zi9):FnOk P w K mg base CX0 3 f fd ["_law_p","_law_a","_law_b"] (spOp Zba):=by
 have nd:=Zfn.nd;refine F.ok Zfn (λvs H Q E h=>?_) (λcdv A outer s H vs Q E hr h=>?_)
 .obtain ⟨p,va,vb,x,y,rfl,_⟩:=h;rfl
 .obtain ⟨p,va,vb,x,y,rfl,hp,h2,q⟩:=h;have p0:=hp.lo;have p97:=hp.hi;obtain ⟨g1,g2,g3,g4,g5⟩:=h2.big;refine ⟨_,((@Za4 _ _ _ _ _ _ _ _ (Zai Ze4 (pv 0) Zac (Zan _)) (~~~(Zct<|>(Zjt<|>(pv 1)<&&>(pv 2))<&&>(pv 0))) Zao)<*>(~~~(Za5 C_law_lowest hr.m rfl ((Zbb<|>(Zaq<|>(pv 1)<||>Zac)<&&>(Zaq<|>(pv 2)<||>Zac))<&>((Zbb<|>(Zaq<|>(pv 1)<||>Zac)<&&>(Zaq<|>(pv 2)<||>Zac))<&>Zaa))))),?_⟩;walk_at "wp";refine Zdz (λhc=>?_) (λhc=>?_)
  .have hc:=Ja7 hc;obtain rfl:=h2.a.int (by omega);obtain rfl:=h2.b.int (by omega);have hx:0<=x.1/\x.1 < p:=by rcases h2.hx with ⟨h,_⟩ | ⟨_,h,h',_⟩ <;> omega
   refine ⟨_,rfl,_,rfl,.inl ⟨by omega,by omega⟩,hc,q _ H (Same.refl _) ?_⟩;have:=NumV.of (H:=H) (x:=Zba p x y) (show ¬ p = 0 by omega);rw [Zba,if_neg (by omega)] at this ⊢;exact this
  .have hc:¬ 0 < p:=λz=>hc (Jbc z);have hp0:p = 0:=by exact Zlc p0 hc
   obtain ⟨ta,rfl,hta⟩:=h2.a.ref hp0;obtain ⟨tb,rfl,htb⟩:=h2.b.ref hp0;walk_at "wp";refine ⟨_,SqT.of hta,_,rfl,_,SqT.of htb,_,rfl,_,rfl,_,rfl,g1.mul g3,_,SqT.of hta,_,rfl,_,SqT.of htb,_,rfl,_,rfl,_,rfl,g2.mul g4,?_⟩;refine ⟨_,_,rfl,h2.tops.2.2,Jc2 h2.hx.pos h2.hy.pos,g5,λt ht=>q _ _ (Same.new ht) ?_⟩;rw [Zba,if_pos hp0];exact NumV.tup hp0 Zab
def GAt (C:Addr) (H:Hp) (g:Addr) (p:Int):Prop:=∃ dx,H g = some (.ins C dx (Zu3 p))
theorem GAt.same {H H':Hp} {g:Addr} {p:Int} (h:GAt C H g p) (s:Same H H'):GAt C H' g p:=let ⟨dx,e⟩:=h; ⟨dx,s _ _ e⟩
def Zoi:Sp:=λvs H Q _=>∃ p k:Int,vs = [.int p,.int k]/\GroundP p/\∀ v H',Same H H'->NumV H' p v (Zgc p k)->Q v H'
theorem ok_int {f:Addr} {fd:FuncData} (F:Fun K "_law_int" "_law_int" Zeg f fd) (T:Txt K mg C):FnOk P w K mg base CX0 1 f fd ["_law_p","_law_k"] Zoi:=by
 have nd:=Zjj.nd;refine F.ok Zjj (λvs H Q E h=>?_) (λcdv A outer s H vs Q E hr h=>?_)
 .obtain ⟨p,k,rfl,_⟩:=h;rfl
 .obtain ⟨p,k,rfl,hp,q⟩:=h;have p0:=hp.lo;refine ⟨_,((@Za4 _ _ _ _ _ _ _ _ (Zai Ze4 (pv 0) Zac (Zan _)) (~~~(Zct<|>(pv 1)<&&>(pv 0))) Zao)<*>(~~~(@Za9 _ _ _ _ _ ((pv 1)<&>(Zac<&>Zaa))))),?_⟩;walk_at "wp";refine Zdz (λhc=>?_) (λhc=>?_)
  .have hc:=Ja7 hc;refine ⟨hc,q _ H (Same.refl _) ?_⟩;have:=NumV.of (H:=H) (x:=Zgc p k) (show ¬ p = 0 by omega);rw [Zgc,if_neg (by omega)] at this ⊢;exact this
  .have hc:¬ 0 < p:=λz=>hc (Jbc z);have hp0:p = 0:=by exact Zlc p0 hc
   refine ⟨by decide,λt ht=>q _ _ (Same.new ht) ?_⟩;rw [Zgc,if_pos hp0];exact NumV.tup hp0 Zab
theorem Zuz {H:Hp} {p:Int} {v u:V} {x:Int × Int} {Q:VK} (h:NumV H p v x) (h':NumV H p u x) (q:Q (.bl true) H):rEqN K v u H Q:=by
 by_cases hp:p = 0
 .obtain ⟨t,rfl,ht⟩:=h.ref hp;obtain ⟨t',rfl,ht'⟩:=h'.ref hp;exact .inr (pair_eq false ht ht' q)
 .obtain rfl:=h.int hp;obtain rfl:=h'.int hp;exact .inl ⟨rfl,by rw [Jbc rfl]; exact q⟩
def Zpg:Sp:=λvs H Q _=>∃ (p:Int) (v u:V) (x:Int × Int),vs = [.int p,v,u]/\GroundP p/\NumV H p v x/\NumV H p u x/\Q (.bl true) H
theorem ok_same {f:Addr} {fd:FuncData} (F:Fun K "_law_same" "_law_same" Zdj f fd) (T:Txt K mg C) (C_law_whole:Cal P w K mg base "_law_whole" 1 Zf7):FnOk P w K mg base CX0 2 f fd ["_law_p","_law_found","_law_due"] Zpg:=by
 have nd:=Zh7.nd;refine F.ok Zh7 (λvs H Q E h=>?_) (λcdv A outer s H vs Q E hr h=>?_)
 .obtain ⟨p,v,u,x,rfl,_⟩:=h;rfl
 .obtain ⟨p,v,u,x,rfl,hp,h1,h2,q⟩:=h;have p0:=hp.lo;refine ⟨_,((@Za4 _ _ _ _ _ _ _ _ (Zai Ze4 (pv 0) Zac (Zan _)) (~~~(Zjs (Za5 C_law_whole hr.m rfl ((pv 1)<&>Zaa)) (Zjr (Zcs (Zux (Zfa hr)) (pv 1) (pv 2) (Zan _))))) Zao)<*>((@Za4 _ _ _ _ _ _ _ _ (PW.pt (Zhl (Zd3 (Zd2 (Zcj Zb6 rfl T.n_isinstance Jc5 ((pv 1)<&>((Zla rfl T.n_tuple boot_tuple)<&>Zaa))))) (Zgk (Zai Zgn (Zcj Zb5 rfl T.n_len Jdq ((pv 1)<&>Zaa)) Zac (Zan _))))) (~~~Zes) Zao)<*>(~~~(Zjs (Za5 C_law_whole hr.m rfl ((Zaq<|>(pv 1)<||>Zac)<&>Zaa)) (Zjs (Za5 C_law_whole hr.m rfl ((Zaq<|>(pv 1)<||>Zac)<&>Zaa)) (Zjr (Zcs (Zux (Zfa hr)) (pv 1) (pv 2) (Zan _)))))))),?_⟩;walk_at "wp";refine Zdz (λhc=>?_) (λhc=>?_)
  .have hc:=Ja7 hc;obtain rfl:=h1.int (by omega);exact ⟨x.1,rfl,true,rfl,iteT (Zuz h1 h2 q)⟩
  .have hc:¬ 0 < p:=λz=>hc (Jbc z);have hp0:p = 0:=by exact Zlc p0 hc
   obtain ⟨t,rfl,ht⟩:=h1.ref hp0;walk_at "wp";exact ⟨_,_,⟨rfl,rfl⟩,_,rfl,_,.tup ht,_,Zlm K,Znu ⟨_,.inr (SqT.of ht),Znu ⟨_,SqT.of ht,_,rfl,_,rfl,true,rfl,iteT ⟨_,SqT.of ht,_,rfl,_,rfl,true,rfl,iteT (Zuz h1 h2 q)⟩⟩⟩⟩
theorem bd97 {p:Int} {x:Int × Int} {B:Nat} (hp:0 < p) (p97:p<=97) (h:Isn p x) (hB:97<=B):Bd B x:=by
 rcases h with ⟨h,_⟩ | ⟨_,h1,h2,h3⟩
 .omega
 .exact ⟨by omega,by rw [h3]; show 1<=B; omega⟩
theorem bd_plus {p:Int} {x y:Int × Int} {B1 B2:Nat} (hp:GroundP p) (hx:Isn p x) (hy:Isn p y) (h1:Bd B1 x) (h2:Bd B2 y) (hB:97<=2 * B1 * B2):Bd (2 * B1 * B2) (Zc5 p x y):=by
 by_cases h0:p = 0
 .unfold Zc5;rw [if_pos h0];have a1:=Zav h1.1 h2.2;have a2:=Zav h2.1 h1.2;have a3:=Zav h1.2 h2.2;have c:B2 * B1 = B1 * B2:=Je3 ..;have d:2 * B1 * B2 = B1 * B2 + B1 * B2:=by rw [Jdm,Nat.two_mul]
  exact Zqj (Jc2 hx.pos hy.pos) (oz7 a1 a2 c d) (by omega)
 .have:=hp.lo;exact bd97 (by omega) hp.hi (Zft hp.lo hx hy) hB
theorem Zue {p:Int} {x y:Int × Int} {B1 B2:Nat} (hp:GroundP p) (hx:Isn p x) (hy:Isn p y) (h1:Bd B1 x) (h2:Bd B2 y) (hB:97<=B1 * B2):Bd (B1 * B2) (Zba p x y):=by
 by_cases h0:p = 0
 .unfold Zba;rw [if_pos h0];exact Zqj (Jc2 hx.pos hy.pos) (Zav h1.1 h2.1) (Zav h1.2 h2.2)
 .have:=hp.lo;exact bd97 (by omega) hp.hi (Zbn hp.lo hx hy) hB
def NumO (H:Hp) (p:Int) (B:Nat) (v:V):Prop:=∃ x,NumV H p v x/\Isn p x/\Bd B x
theorem NumO.same {H H':Hp} {p:Int} {B:Nat} {v:V} (h:NumO H p B v) (s:Same H H'):NumO H' p B v:=let ⟨x,a,b,c⟩:=h; ⟨x,a.same s,b,c⟩
theorem NumO.weak {H:Hp} {p:Int} {B B':Nat} {v:V} (h:NumO H p B v) (hB:B<=B'):NumO H p B' v:=let ⟨x,a,b,c⟩:=h; ⟨x,a,b,Jat c.1 hB,Jat c.2 hB⟩
theorem NumO.put {H:Hp} {D:Addr} {l:List V} {o:HO} {p:Int} {B:Nat} {v:V} (h:NumO H p B v) (hD:H D = some (.lst l)):NumO (upd H D o) p B v:=by
 obtain ⟨x,a,b,c⟩:=h;refine ⟨x,?_,b,c⟩;by_cases hp:p = 0
 .obtain ⟨t,rfl,ht⟩:=a.ref hp;exact NumV.tup hp (by rw [Zal (Zqm ht hD (by intro z; cases z))]; exact ht)
 .obtain rfl:=a.int hp;exact NumV.of hp
theorem NumV.ext {l:Addr} {H H':Hp} {p:Int} {v:V} {x:Int × Int} (h:NumV H p v x) (b:Bag H l) (e:Ext l H H'):NumV H' p v x:=by
 by_cases hp:p = 0
 .obtain ⟨t,rfl,ht⟩:=h.ref hp;obtain ⟨a,c,hb,_⟩:=b;exact NumV.tup hp (e _ _ (Zqm ht hb (by intro z; cases z)) ht)
 .obtain rfl:=h.int hp;exact NumV.of hp
theorem NumO.ext {l:Addr} {H H':Hp} {p:Int} {B:Nat} {v:V} (h:NumO H p B v) (b:Bag H l) (e:Ext l H H'):NumO H' p B v:=let ⟨x,a,c,d⟩:=h; ⟨x,a.ext b e,c,d⟩
def RowO (H:Hp) (p:Int) (B:Nat) (wd:Int) (a:Addr):Prop:=∃ xs,H a = some (.lst xs)/\(xs.length:Int) = wd/\∀ x ∈ xs,NumO H p B x
theorem RowO.same {H H':Hp} {p wd:Int} {B:Nat} {a:Addr} (h:RowO H p B wd a) (s:Same H H'):RowO H' p B wd a:=let ⟨xs,h1,h2,h3⟩:=h; ⟨xs,s _ _ h1,h2,λx hx=>(h3 x hx).same s⟩
theorem RowO.weak {H:Hp} {p wd:Int} {B B':Nat} {a:Addr} (h:RowO H p B wd a) (hB:B<=B'):RowO H p B' wd a:=let ⟨xs,h1,h2,h3⟩:=h; ⟨xs,h1,h2,λx hx=>(h3 x hx).weak hB⟩
theorem RowO.ext {l:Addr} {H H':Hp} {p wd:Int} {B:Nat} {a:Addr} (h:RowO H p B wd a) (b:Bag H l) (e:Ext l H H') (n:a ≠ l):RowO H' p B wd a:=let ⟨xs,h1,h2,h3⟩:=h; ⟨xs,e _ _ n h1,h2,λx hx=>(h3 x hx).ext b e⟩
theorem RowO.put {H:Hp} {D:Addr} {l:List V} {o:HO} {p wd:Int} {B:Nat} {a:Addr} (h:RowO H p B wd a) (hD:H D = some (.lst l)) (n:a ≠ D):RowO (upd H D o) p B wd a:=let ⟨xs,h1,h2,h3⟩:=h; ⟨xs,by rw [Zal n]; exact h1,h2,λx hx=>(h3 x hx).put hD⟩
theorem Zcp (rs:List Addr) (a:Addr):rs.map V.ref ++ [.ref a] = (rs ++ [a]).map V.ref:=by rw [Jbe]; rfl
theorem bd_int0 {p:Int} (hp:GroundP p):Bd 10000 (Zgc p 0):=by
 by_cases h0:p = 0
 .unfold Zgc;rw [if_pos h0];exact ⟨by decide,by decide⟩
 .unfold Zgc;rw [if_neg h0,Int.zero_emod];exact ⟨by decide,by decide⟩
def Zph:Sp:=λvs H Q _=>∃ (l:Addr) (p hh wd:Int),vs = [.ref l,.int p,.int hh,.int wd]/\Bag H l/\GroundP p/\0<=hh/\hh<=24/\0<=wd/\wd<=24 /\
 ∀ (r:Addr) (rs:List Addr) (H':Hp),Ext l H H'->Bag H' l->H r = none->(∀ a ∈ rs,H a = none)->r ∉ rs->H' r = some (.lst (rs.map V.ref))->(rs.length:Int) = hh->(∀ a ∈ rs,RowO H' p 10000 wd a)->Q (.ref r) H'
theorem ok_rows {f:Addr} {fd:FuncData} (F:Fun K "_law_rows" "_law_rows" Zdk f fd) (T:Txt K mg C) (C_law_draw:Cal P w K mg base "_law_draw" 1 Zgf) (C_law_number:Cal P w K mg base "_law_number" 3 Zsl) (C_law_int:Cal P w K mg base "_law_int" 1 Zoi):FnOk P w K mg base CX0 4 f fd ["_law_bag_here","_law_p","_law_high","_law_wide"] Zph:=by
 have nd:=Zh8.nd;refine F.ok Zh8 (λvs H Q E h=>?_) (λcdv A outer s H vs Q E hr h=>?_)
 .obtain ⟨l,p,hh,wd,rfl,_⟩:=h;rfl
 .obtain ⟨l,p,hh,wd,rfl,hb,hp,h0,h24,w0,w24,q⟩:=h;refine ⟨_,((Zar (i:=4) nd rfl (Or.inl rfl) (Zdf<|>Zac<&&>(Za5 C_law_draw hr.m rfl ((pv 0)<&>(Zac<&>Zaa)))))<*>((Zar (i:=5) nd rfl (Or.inl rfl) (@Zce _ _ _ _ Zaa))<*>((Zco Ja8 rfl (Zgb rfl T.n_range ((pv 2)<&>Zaa)) (@Zae _ _ 6 _ nd rfl (Or.inl rfl) (Or.inl rfl)) ((Zar (i:=7) nd rfl (Or.inl rfl) (@Zce _ _ _ _ Zaa))<*>((Zco Ja8 rfl (Zgb rfl T.n_range ((pv 3)<&>Zaa)) (@Zae _ _ 8 _ nd rfl (Or.inl rfl) (Or.inl rfl)) ((Zar (i:=9) nd rfl (Or.inl rfl) (Za5 C_law_number hr.m rfl ((pv 0)<&>((pv 1)<&>Zaa))))<*>(@Zas _ _ _ (@Za4 _ _ _ _ _ _ _ _ (Zai Zi3 (Za5 C_law_draw hr.m rfl ((pv 0)<&>(Zac<&>Zaa))) (pv 4) (Zan _)) (@Zas _ _ _ (Zdx (Zhm Jbk Jbt Jbu Zb1 (pv 7) ((pv 9)<&>Zaa)))) (@Zas _ _ _ (Zdx (Zhm Jbk Jbt Jbu Zb1 (pv 7) ((Za5 C_law_int hr.m rfl ((pv 1)<&>(Zac<&>Zaa)))<&>Zaa))))))))<*>(@Zas _ _ _ (Zdx (Zhm Jbk Jbt Jbu Zb1 (pv 5) ((pv 7)<&>Zaa)))))))<*>(~~~(pv 5))))),?_⟩;walk_at "wp";refine hb.draw (by decide) (by decide) λz H2 z0 z1 e2 b2=>⟨z,rfl,by decide,λr hr0=>?_⟩
  have nr:r ≠ l:=b2.ne hr0;have fr:H r = none:=e2.free nr hr0;refine ⟨_,rfl,hh,rfl,by omega,by omega,Zch (λi σ H3=>∃ (v6 v7 v8 v9:Option V) (rs:List Addr),σ = [some (.ref l),some (.int p),some (.int hh),some (.int wd),some (.int (1 + z)),some (.ref r),v6,v7,v8,v9]/\Ext l H H3/\Bag H3 l/\(∀ a ∈ rs,H a = none)/\r ∉ rs/\H3 r = some (.lst (rs.map V.ref))/\rs.length = i/\∀ a ∈ rs,RowO H3 p 10000 wd a)
   ⟨none,none,none,none,[],rfl,e2.trans (Ext.new hr0),b2.new nr,by simp,by simp,Zab,rfl,by simp⟩ ?_ ?_⟩
  .rintro i σ H3 hi ⟨v6,v7,v8,v9,rs,rfl,e3,b3,hf,nm,hr3,hln,hro⟩;walk_at "wp";refine ⟨by decide,λa ha=>?_⟩;have na:a ≠ l:=b3.ne ha;have fa:H a = none:=e3.free na ha;have nar:r ≠ a:=Zaj hr3 ha;have nas:a ∉ rs:=λz=>by obtain ⟨xs,h1,_⟩:=hro a z; rw [ha] at h1; cases h1
   refine ⟨_,rfl,wd,rfl,by omega,by omega,Zch (λj σ H4=>∃ (v8 v9:Option V) (xs:List V),σ = [some (.ref l),some (.int p),some (.int hh),some (.int wd),some (.int (1 + z)),some (.ref r),some (.int (0 + (i:Int))),some (.ref a),v8,v9]/\Ext l H H4/\Bag H4 l/\H4 r = some (.lst (rs.map V.ref))/\(∀ a ∈ rs,RowO H4 p 10000 wd a)/\H4 a = some (.lst xs)/\xs.length = j/\∀ x ∈ xs,NumO H4 p 10000 x)
    ⟨v8,v9,[],rfl,e3.trans (Ext.new ha),b3.new na,by rw [Zal nar]; exact hr3,λb hb=>(hro b hb).same (Same.new ha),Zab,rfl,by simp⟩ ?_ ?_⟩
   .rintro j σ H4 hj ⟨u8,u9,xs,rfl,e4,b4,hr4,hro4,ha4,hlx,hnx⟩;walk_at "wp";have step:∀ (v:V) (H5:Hp),Ext l H4 H5->Bag H5 l->NumO H5 p 10000 v->(Ext l H (upd H5 a (.lst (xs ++ [v])))/\Bag (upd H5 a (.lst (xs ++ [v]))) l/\upd H5 a (.lst (xs ++ [v])) r = some (.lst (rs.map V.ref))/\(∀ b ∈ rs,RowO (upd H5 a (.lst (xs ++ [v]))) p 10000 wd b) /\
      ∃ ys,upd H5 a (.lst (xs ++ [v])) a = some (.lst ys)/\ys.length = j + 1/\∀ x ∈ ys,NumO (upd H5 a (.lst (xs ++ [v]))) p 10000 x):=by
     intro v H5 e5 b5 nv;have ha5:=e5 _ _ na ha4;refine ⟨(e4.trans e5).upd fa,b5.new na,by rw [Zal nar]; exact e5 _ _ nr hr4,λb hbm=>?_,_,Zab,by rw [Jam,hlx]; rfl,λx hx=>?_⟩
     .have nb:b ≠ l:=hb.ne (hf b hbm);exact ((hro4 b hbm).ext b4 e5 nb).put ha5 (λz=>nas (z ▸ hbm))
     .rcases Jal.mp hx with hx | hx
      .exact ((hnx x hx).ext b4 e5).put ha5
      .rw [Ja1.mp hx]; exact nv.put ha5
    have hsz:xs.length < sizeLine:=Zau (oz87 w24 hj hlx);refine ⟨l,p,rfl,b4,hp,λv x H5 e5 b5 nv iv bv=>?_⟩;refine b5.draw (by decide) (by decide) λy H6 y0 y1 e6 b6=>⟨y,rfl,Zdz (λ_=>?_) (λ_=>?_)⟩
    .have ha6:=(e5.trans e6) _ _ na ha4;exact ⟨.inl ⟨rfl,_,SqL.of ha6⟩,xs,ha6,hsz,_,_,⟨rfl,rfl⟩,step v H6 (e5.trans e6) b6 ⟨x,nv.ext b5 e6,iv,bv⟩⟩
    .have ha6:=(e5.trans e6) _ _ na ha4;refine ⟨.inl ⟨rfl,_,SqL.of ha6⟩,p,0,rfl,hp,λv0 H7 s7 n0=>?_⟩;have ha7:=s7 _ _ ha6;exact ⟨xs,ha7,hsz,_,_,⟨rfl,rfl⟩,step v0 H7 ((e5.trans e6).trans s7.ext) (b6.same s7) ⟨_,n0,Zdd hp.lo,bd_int0 hp⟩⟩
   .rintro σ H4 ⟨u8,u9,xs,rfl,e4,b4,hr4,hro4,ha4,hlx,hnx⟩;walk_at "wp";refine ⟨.inl ⟨rfl,_,SqL.of hr4⟩,_,hr4,Zau (by rw [Jab]; exact oz87 h24 hi hln),_,_,_,_,⟨rfl,rfl,rfl,rfl⟩,e4.upd fr,b4.new nr,rs ++ [a],?_,?_,?_,by rw [Jam,hln]; rfl,?_⟩
    .intro b hbm;rcases Jal.mp hbm with h | h
     .exact hf b h
     .rw [Ja1.mp h]; exact fa
    .intro z;rcases Jal.mp z with h | h
     .exact nm h
     .exact nar (Ja1.mp h)
    .rw [Zab,Zcp]
    .intro b hbm;rcases Jal.mp hbm with h | h
     .exact (hro4 b h).put hr4 (λz=>nm (z ▸ h))
     .rw [Ja1.mp h];exact RowO.put ⟨xs,ha4,oz81 w0 hlx,hnx⟩ hr4 nar.symm
  .rintro σ H3 ⟨v6,v7,v8,v9,rs,rfl,e3,b3,hf,nm,hr3,hln,hro⟩;exact ⟨_,rfl,q r rs H3 e3 b3 fr hf nm hr3 (oz81 h0 hln) hro⟩
theorem Zt7 {a D:Addr} {xs:List V} {fr:List (Str × Nat)} {σ:L2.St} {te:TE} {H1:Hp} {Q:VK} (R:Hp->V->Prop) (hS:∀ {H H' y},R H y->Same H H'->R H' y) (hP:∀ {H y l o},R H y->H D = some (.lst l)->R (upd H D o) y)
  (ha:H1 a = some (.lst xs)) (hD:H1 D = none) (hn:xs.length<=1000)
  (h:∀ (i:Nat) x H (Q:VK),xs[i]? = some x->Same H1 H->(∀ y H',Same H H'->R H' y->Q y H')->te (some x :: Zbp fr σ) H Q)
  (hQ:∀ ys H',Same H1 H'->H' D = some (.lst ys)->ys.length = xs.length->(∀ y ∈ ys,R H' y)->Q (.ref D) H'):Zcg (Zb4 0) Zhq te (Itl K a) D (Zgr 1 fr σ) H1 Q:=by
 refine Zki (xs:=xs) (λi vs H=>Same H1 H/\H D = some (.lst vs)/\vs.length = i/\∀ y ∈ vs,R H y) ⟨Same.new hD,Zab,rfl,by simp⟩ (λi vs H _ p=>SqL.of (p.1 _ _ ha)) ?_ (λvs H ⟨s,e,hl,hr⟩=>hQ vs H s e hl hr);rintro i x vs σ' H hi hx sh ⟨s,e,hl,hr⟩;obtain ⟨z,rfl⟩:=sh.one;simp only [Zf6,Zb4,Zhq,Jbi,Jdf];refine h i x H _ hx s λy H' s' ry=>?_;refine Zo0 (ws:=vs ++ [y]) hi Sh.mk1 (s' _ _ e) (Zau (Zmq hn hi hl)) ⟨(s.trans s').upd hD,Zab,by rw [Jam,hl]; rfl,λu hu=>?_⟩;rcases Jal.mp hu with hu | hu
 .exact hP (hS (hr u hu) s') (s' _ _ e)
 .rw [Ja1.mp hu]; exact hP ry (s' _ _ e)
theorem Zow {a b D:Addr} {xs ys:List V} {fr:List (Str × Nat)} {σ:L2.St} {te:TE} {H1:Hp} {Q:VK} (R:Hp->V->Prop) (hS:∀ {H H' y},R H y->Same H H'->R H' y) (hP:∀ {H y l o},R H y->H D = some (.lst l)->R (upd H D o) y)
  (ha:H1 a = some (.lst xs)) (hb:H1 b = some (.lst ys)) (hlen:ys.length = xs.length) (hD:H1 D = none) (hn:xs.length<=1000)
  (h:∀ (i:Nat) x y H (Q:VK),xs[i]? = some x->ys[i]? = some y->Same H1 H->(∀ u H',Same H H'->R H' u->Q u H')->te (some x :: some y :: Zbp fr σ) H Q)
  (hQ:∀ zs H',Same H1 H'->H' D = some (.lst zs)->zs.length = xs.length->(∀ y ∈ zs,R H' y)->Q (.ref D) H'):Zcg (gTup K 2 (Zls (Zb4 0) (Zls (Zb4 1) gNil))) Zhq te (Itz K a b) D (Zgr 2 fr σ) H1 Q:=by
 refine Zn2 (xs:=xs) (ys:=ys) (λi vs H=>Same H1 H/\H D = some (.lst vs)/\vs.length = i/\∀ y ∈ vs,R H y) hlen ⟨Same.new hD,Zab,rfl,by simp⟩ (λi vs H _ p=>⟨SqL.of (p.1 _ _ ha),SqL.of (p.1 _ _ hb)⟩) ?_ (λvs H ⟨s,e,hl,hr⟩=>hQ vs H s e hl hr);rintro i x y p vs σ' H hi hx hy hp sh ⟨s,e,hl,hr⟩;obtain ⟨z1,z2,rfl⟩:=sh.two;have s0:=Same.new (o:=.tup [x,y]) hp;refine ⟨p,_,rfl,SqT.of Zab,rfl,_,_,rfl,_,_,rfl,rfl,?_⟩;simp only [Zhq,Jbi,Jce,Jdf];refine h i x y _ _ hx hy (s.trans s0) λu H' s' ru=>?_;have s1:=s0.trans s';refine Zo0 (ws:=vs ++ [u]) hi Sh.mk2 (s1 _ _ e) (Zau (Zmq hn hi hl)) ⟨(s.trans s1).upd hD,Zab,by rw [Jam,hl]; rfl,λv hv=>?_⟩;rcases Jal.mp hv with hv | hv
 .exact hP (hS (hr v hv) s1) (s1 _ _ e)
 .rw [Ja1.mp hv]; exact hP ru (s1 _ _ e)
abbrev BB:Nat:=20000000000000000
theorem Zhw {n:Nat} (h:0 < n):ixN n (-1) = some (n - 1):=by
 unfold ixN;rw [if_neg (by omega),if_pos (by omega)];congr 1;exact oz98
theorem Zfm (rs:List Addr) (j:Nat) (a:Addr):(rs.map V.ref).set j (.ref a) = (rs.set j a).map V.ref:=(List.map_set).symm
theorem Zkd {rs:List Addr} {j:Nat} (h:j < rs.length):(rs.map V.ref)[j]? = some (.ref rs[j]):=by rw [Jad,Jaa h]; rfl
theorem Zr1 {rs:List Addr} (h:0 < rs.length):atI (rs.map V.ref) (-1) = some (.ref (rs[rs.length - 1]'(by omega))):=by
 unfold atI;rw [Jab,Zhw h];exact Zkd (by omega)
structure Tab (H:Hp) (p:Int) (hh wd:Int) (t r:Addr) (rs:List Addr):Prop where
 tup:H t = some (.tup [.int hh,.int wd,.ref r])
 lst:H r = some (.lst (rs.map V.ref))
 len:(rs.length:Int) = hh
 row:∀ a ∈ rs,RowO H p BB wd a
 nin:r ∉ rs
def spTb:Sp:=λvs H Q _=>∃ (l:Addr) (p hh wd:Int),vs = [.ref l,.int p,.int hh,.int wd]/\Bag H l/\GroundP p/\0<=hh/\hh<=24/\0<=wd/\wd<=24 /\
 ∀ (t r:Addr) (rs:List Addr) (H':Hp),Ext l H H'->Bag H' l->H t = none->H r = none->(∀ a ∈ rs,H a = none)->Tab H' p hh wd t r rs->Q (.ref t) H'
theorem ok_tb {f:Addr} {fd:FuncData} (F:Fun K "_law_table" "_law_table" Zc2 f fd) (T:Txt K mg C) (C_law_rows:Cal P w K mg base "_law_rows" 4 Zph) (C_law_draw:Cal P w K mg base "_law_draw" 1 Zgf) (C_law_number:Cal P w K mg base "_law_number" 3 Zsl) (C_law_mul:Cal P w K mg base "_law_mul" 3 (spOp Zba)) (C_law_add:Cal P w K mg base "_law_add" 3 (spOp Zc5)):FnOk P w K mg base CX0 5 f fd ["_law_bag_here","_law_p","_law_high","_law_wide"] spTb:=by
 have nd:=Zg8.nd;refine F.ok Zg8 (λvs H Q E h=>?_) (λcdv A outer s H vs Q E hr h=>?_)
 .obtain ⟨l,p,hh,wd,rfl,_⟩:=h;rfl
 .obtain ⟨l,p,hh,wd,rfl,hb,hp,h0,h24,w0,w24,q⟩:=h;refine ⟨_,((Zar (i:=4) nd rfl (Or.inl rfl) (Za5 C_law_rows hr.m rfl ((pv 0)<&>((pv 1)<&>((pv 2)<&>((pv 3)<&>Zaa))))))<*>((@Za4 _ _ _ _ _ _ _ _ (PW.pt (Zk5 (Zai Ze4 (pv 2) Zac (Zan _)) (Zil (Zai Zem (Za5 C_law_draw hr.m rfl ((pv 0)<&>(Zac<&>Zaa))) Zac (Zan _))))) ((Zar (i:=5) nd rfl (Or.inr rfl) (Za5 C_law_number hr.m rfl ((pv 0)<&>((pv 1)<&>Zaa))))<*>((Zbm (Za6 (own:=["_law_number_here"]) (fr:=[("_law_p",1),("_law_a",5)]) rfl (Zb0 (by kernel_rfl)) (Zbd (Zat<|>(pv 4)<||>Zac)) (λ_ _ _ _=>⟨(@Zae _ _ 0 _ (show (["_law_number_here","_law_p","_law_a"]:List Str).Nodup by decide +kernel) rfl (Or.inl rfl) (Or.inr rfl)),Za1,(Za5 C_law_mul hr.m rfl ((pv 1)<&>((pv 2)<&>((pv 0)<&>Zaa))))⟩)) (Zf4 (pv 4) (Zi2 Zfz Zac) Zc6))<*>(@Zas _ _ _ (@Za4 _ _ _ _ _ _ _ _ (PW.pt (Zk5 (Zai Ze4 (pv 2) Zac (Zan _)) (Zil (Zai Zem (Za5 C_law_draw hr.m rfl ((pv 0)<&>(Zac<&>Zaa))) Zac (Zan _))))) (@Zas _ _ _ (Zbm (Za6 (own:=["_law_b","_law_c"]) (fr:=[("_law_p",1)]) rfl (Zb0 (by kernel_rfl)) (Zhe rfl T.n_zip ((Zat<|>(pv 4)<||>(Zi2 Zfz Zac))<&>((Zat<|>(pv 4)<||>Zac)<&>Zaa))) (λ_ _ _ _=>⟨(@Zfc _ K rfl _ _ _ _ 2 rfl (@Zag _ _ _ _ _ (@Zae _ _ 0 _ (show (["_law_b","_law_c","_law_p"]:List Str).Nodup by decide +kernel) rfl (Or.inl rfl) (Or.inr rfl)) (@Zag _ _ _ _ _ (@Zae _ _ 1 _ (show (["_law_b","_law_c","_law_p"]:List Str).Nodup by decide +kernel) rfl (Or.inl rfl) (Or.inr rfl)) (@Za3 _) (by rfl)) (by rfl)) (by rfl) (by rfl)),Za1,(Za5 C_law_add hr.m rfl ((pv 2)<&>((pv 0)<&>((pv 1)<&>Zaa))))⟩)) (Zf4 (pv 4) (Zi2 Zfz Zac) Zc6))) Zao)))) Zao)<*>(~~~(@Za9 _ _ _ _ _ ((pv 2)<&>((pv 3)<&>((pv 4)<&>Zaa))))))),?_⟩;walk_at "wp";refine ⟨l,p,hh,wd,rfl,hb,hp,h0,h24,w0,w24,λr rs H1 e1 b1 fr hf nin hr1 hln hro=>?_⟩;have nr:r ≠ l:=hb.ne fr;have fin:∀ (H2:Hp) (rs2:List Addr),Ext l H H2->Bag H2 l->H2 r = some (.lst (rs2.map V.ref))->(rs2.length:Int) = hh->(∀ a ∈ rs2,RowO H2 p BB wd a)->r ∉ rs2->(∀ a ∈ rs2,H a = none)->
    (3<=sizeLine/\∀ t,H2 t = none->Q (.ref t) (upd H2 t (.tup [.int hh,.int wd,.ref r]))):=by
   intro H2 rs2 e2 b2 hr2 hl2 hro2 nin2 hf2;refine ⟨by decide,λt ht=>?_⟩;have nt:=b2.ne ht;exact q t r rs2 _ (e2.trans (Ext.new ht)) (b2.new nt) (e2.free nt ht) fr hf2 ⟨Zab,by rw [Zal (Zaj hr2 ht)]; exact hr2,hl2,λa ha=>(hro2 a ha).same (Same.new ht),nin2⟩
  have hroB:∀ H2,Ext l H1 H2->∀ B:Nat,10000<=B->∀ a ∈ rs,RowO H2 p B wd a:=λH2 e2 B hB a ha=>((hro a ha).ext b1 e2 (hb.ne (hf a ha))).weak hB;refine Zdz (λhc1=>?_) (λ_=>fin H1 rs e1 b1 hr1 hln (hroB H1 (Ext.refl _ _) BB (by decide)) nin hf);have hc1:=Ja7 hc1;refine b1.draw (by decide) (by decide) λz H2 z0 z1 e2 b2=>⟨rfl,Zdz (λ_=>?_) (λ_=>fin H2 rs (e1.trans e2) b2 (e2 _ _ nr hr1) hln (hroB H2 e2 BB (by decide)) nin hf)⟩
  refine ⟨l,p,rfl,b2,hp,λva x H3 e3 b3 na ia ba=>?_⟩;have hr3:=(e2.trans e3) _ _ nr hr1;have hro3:=hroB H3 (e2.trans e3) 10000 (by decide);have hn0:0 < rs.length:=by omega
  obtain ⟨xs0,hx0,lx0,nx0⟩:=hro3 (rs[0]) (Jaw hn0);refine ⟨_,rfl,r,_,0,_,rfl,rfl,SqL.of hr3,Zcx (by decide) (Zkd hn0),_,rfl,⟨_,SqL.of hx0⟩,λD hD=>Zt7 (λH y=>NumO H p 100000000 y) (λh s=>h.same s) (λh e=>h.put e) hx0 hD (oz96 w24 lx0) (λi y H' Q' hy s' q'=>?_) λys H4 s4 hD4 ly hys=>?_⟩
  .obtain ⟨xy,ny,iy,byy⟩:=nx0 y (Jae hy);exact ⟨_,rfl,_,rfl,_,rfl,p,va,y,x,xy,rfl,hp,⟨na.same s',ny.same s',ia,iy,10000,10000,ba,byy,by decide⟩,λv H5 s5 n5=>q' v H5 s5 ⟨_,n5,Zbn hp.lo ia iy,Zue hp ia iy ba byy (by decide)⟩⟩
  have hr4:=s4 _ _ hr3;have nDl:D ≠ l:=b3.ne hD;have fD:H D = none:=((e1.trans e2).trans e3).free nDl hD;have nDr:r ≠ D:=Zaj hr3 hD;refine ⟨r,rfl,_,hr4,_,Zhw (by rw [Jab]; exact hn0),?_⟩;rw [Jab,Zfm];have b4:=b3.same s4;have e4:Ext l H H4:=((e1.trans e2).trans e3).trans s4.ext;have e5:Ext l H (upd H4 r (.lst ((rs.set (rs.length - 1) D).map V.ref))):=e4.upd fr;have b5:Bag (upd H4 r (.lst ((rs.set (rs.length - 1) D).map V.ref))) l:=b4.new nr;have ro5:∀ a ∈ rs.set (rs.length - 1) D,RowO (upd H4 r (.lst ((rs.set (rs.length - 1) D).map V.ref))) p 100000000 wd a:=λa ha=>by
   rcases Jar ha with ha | rfl
   .exact (((hro3 a ha).same s4).weak (by decide)).put hr4 (λz=>nin (z ▸ ha))
   .exact RowO.put ⟨ys,hD4,oz30 lx0 ly,hys⟩ hr4 nDr.symm
  have nin5:r ∉ rs.set (rs.length - 1) D:=λz=>by
   rcases Jar z with z | z
   .exact nin z
   .exact nDr z
  have hf5:∀ a ∈ rs.set (rs.length - 1) D,H a = none:=λa ha=>by
   rcases Jar ha with ha | rfl
   .exact hf a ha
   .exact fD
  have ln5:((rs.set (rs.length - 1) D).length:Int) = hh:=by rw [Jay]; exact hln
  have r5:(upd H4 r (.lst ((rs.set (rs.length - 1) D).map V.ref))) r = some (.lst ((rs.set (rs.length - 1) D).map V.ref)):=Zab;generalize upd H4 r (.lst ((rs.set (rs.length - 1) D).map V.ref)) = H5 at *;generalize rs.set (rs.length - 1) D = rs5 at *;refine Zdz (λhc2=>?_) (λ_=>fin H5 rs5 e5 b5 r5 ln5 (λa ha=>(ro5 a ha).weak (by decide)) nin5 hf5);have hc2:=Ja7 hc2;refine b5.draw (by decide) (by decide) λz2 H6 _ _ e6 b6=>⟨rfl,Zdz (λ_=>?_) (λ_=>fin H6 rs5 (e5.trans e6) b6 (e6 _ _ nr r5) ln5 (λa ha=>((ro5 a ha).ext b5 e6 (hb.ne (hf5 a ha))).weak (by decide)) nin5 hf5)⟩
  have r6:=e6 _ _ nr r5;have ro6:∀ a ∈ rs5,RowO H6 p 100000000 wd a:=λa ha=>(ro5 a ha).ext b5 e6 (hb.ne (hf5 a ha));have hn5:0 < rs5.length:=by omega
  have hn1:1 < rs5.length:=by omega
  obtain ⟨xa,hxa,lxa,nxa⟩:=ro6 (rs5[rs5.length - 1]'(by omega)) (Jaw _);obtain ⟨xb,hxb,lxb,nxb⟩:=ro6 (rs5[1]) (Jaw hn1);refine ⟨_,rfl,_,rfl,r,_,-1,_,rfl,rfl,SqL.of r6,Zr1 hn5,_,rfl,r,_,1,_,rfl,rfl,SqL.of r6,Zcx (by decide) (Zkd hn1),_,_,rfl,⟨_,SqL.of hxa⟩,⟨_,SqL.of hxb⟩,λD2 hD2=>Zow (λH y=>NumO H p BB y) (λh s=>h.same s) (λh e=>h.put e) hxa hxb (oz134 lxa lxb) hD2 (oz96 w24 lxa) (λi y u H' Q' hy hu s' q'=>?_) λys2 H7 s7 hD7 ly2 hys2=>?_⟩
  .obtain ⟨xy,ny,iy,byy⟩:=nxa y (Jae hy);obtain ⟨xu,nu,iu,bu⟩:=nxb u (Jae hu);exact ⟨_,rfl,_,rfl,_,rfl,p,y,u,xy,xu,rfl,hp,⟨ny.same s',nu.same s',iy,iu,100000000,100000000,byy,bu,by decide⟩,λv H8 s8 n8=>q' v H8 s8 ⟨_,n8,Zft hp.lo iy iu,bd_plus hp iy iu byy bu (by decide)⟩⟩
  have r7:=s7 _ _ r6;have nDl2:D2 ≠ l:=b6.ne hD2;have fD2:H D2 = none:=(e5.trans e6).free nDl2 hD2;have nDr2:r ≠ D2:=Zaj r6 hD2;refine ⟨r,rfl,_,r7,_,Zhw (by rw [Jab]; exact hn5),?_⟩;rw [Jab,Zfm];refine fin _ (rs5.set (rs5.length - 1) D2) (((e5.trans e6).trans s7.ext).upd fr) ((b6.same s7).new nr) Zab (by rw [Jay]; exact ln5) (λa ha=>?_) (λz=>?_) (λa ha=>?_)
  .rcases Jar ha with ha | rfl
   .exact (((ro6 a ha).same s7).weak (by decide)).put r7 (λz=>nin5 (z ▸ ha))
   .exact RowO.put ⟨ys2,hD7,oz30 lxa ly2,hys2⟩ r7 nDr2.symm
  .rcases Jar z with z | z
   .exact nin5 z
   .exact nDr2 z
  .rcases Jar ha with ha | rfl
   .exact hf5 a ha
   .exact fD2
abbrev Nv:=Int × Int
abbrev Mv:=List (List Nv)
def All2 {α β:Type} (P:α->β->Prop) (xs:List α) (ys:List β):Prop:=xs.length = ys.length/\∀ (i:Nat) x y,xs[i]? = some x->ys[i]? = some y->P x y
theorem All2.nil {α β:Type} {P:α->β->Prop}:All2 P [] []:=⟨rfl,λi x y e=>by simp at e⟩
theorem All2.take {α β:Type} {P:α->β->Prop} {xs:List α} {ys:List β} (h:All2 P xs ys) (n:Nat):All2 P (xs.take n) (ys.take n):=⟨by rw [Jbf,Jbf,h.1],λi x y e1 e2=>by
 by_cases hi:i < n
 .rw [Jde hi] at e1 e2;exact h.2 i x y e1 e2
 .rw [Jaj (by rw [Jbf]; omega)] at e1;cases e1⟩
theorem All2.drop {α β:Type} {P:α->β->Prop} {xs:List α} {ys:List β} (h:All2 P xs ys) (n:Nat):All2 P (xs.drop n) (ys.drop n):=⟨by rw [Jbm,Jbm,h.1],λi x y e1 e2=>by
 rw [Jcw] at e1 e2;exact h.2 _ x y e1 e2⟩
theorem All2.app {α β:Type} {P:α->β->Prop} {xs xs':List α} {ys ys':List β} (h:All2 P xs ys) (h':All2 P xs' ys'):All2 P (xs ++ xs') (ys ++ ys'):=⟨by rw [Jam,Jam,h.1,h'.1],λi x y e1 e2=>by
 have hl:=h.1;by_cases hi:i < xs.length
 .rw [Jbd hi] at e1;rw [Jbd (Ze2 hl hi)] at e2;exact h.2 i x y e1 e2
 .rw [Jbb (by omega)] at e1 e2;rw [<- hl] at e2;exact h'.2 _ x y e1 e2⟩
theorem All2.one {α β:Type} {P:α->β->Prop} {x:α} {y:β} (h:P x y):All2 P [x] [y]:=⟨rfl,λi a b e1 e2=>by
 cases i with
 | zero=>cases e1; cases e2; exact h
 | succ i=>simp at e1⟩
theorem All2.mono {α β:Type} {P P':α->β->Prop} {xs:List α} {ys:List β} (h:All2 P xs ys) (k:∀ x y,P x y->P' x y):All2 P' xs ys:=⟨h.1,λi x y e1 e2=>k x y (h.2 i x y e1 e2)⟩
theorem All2.monoM {α β:Type} {P P':α->β->Prop} {xs:List α} {ys:List β} (h:All2 P xs ys) (k:∀ x y,x ∈ xs->P x y->P' x y):All2 P' xs ys:=⟨h.1,λi x y e1 e2=>k x y (Jae e1) (h.2 i x y e1 e2)⟩
theorem All2.set {α β:Type} {P:α->β->Prop} {xs:List α} {ys:List β} (h:All2 P xs ys) (n:Nat) {x:α} {y:β} (hp:P x y):All2 P (xs.set n x) (ys.set n y):=⟨by rw [Jay,Jay,h.1],λi a b e1 e2=>by
 rw [Jcu] at e1 e2;by_cases hi:n = i
 .rw [if_pos hi] at e1 e2;split at e1
  .split at e2
   .cases e1; cases e2; exact hp
   .cases e2
  .cases e1
 .rw [if_neg hi] at e1 e2;exact h.2 i a b e1 e2⟩
theorem All2.rep {α β:Type} {P:α->β->Prop} {x:α} {y:β} (h:P x y) (n:Nat):All2 P (List.replicate n x) (List.replicate n y):=⟨by simp,λi a b e1 e2=>by
 rw [Jbw] at e1 e2;split at e1
 .rename_i hi
  rw [if_pos hi] at e2;cases e1; cases e2; exact h
 .cases e1⟩
theorem All2.at {α β:Type} {P:α->β->Prop} {xs:List α} {ys:List β} (h:All2 P xs ys) {i:Nat} {y:β} (e:ys[i]? = some y):∃ x,xs[i]? = some x/\P x y:=by
 have hi:i < ys.length:=(Jah.mp e).1;have hx:xs[i]? = some (xs[i]'(by have:=h.1; exact Zhu hi this)):=Jaa _;exact ⟨_,hx,h.2 i _ y hx e⟩
theorem All2.at' {α β:Type} {P:α->β->Prop} {xs:List α} {ys:List β} (h:All2 P xs ys) {i:Nat} {x:α} (e:xs[i]? = some x):∃ y,ys[i]? = some y/\P x y:=by
 have hi:i < xs.length:=(Jah.mp e).1;have hy:ys[i]? = some (ys[i]'(by have:=h.1; omega)):=Jaa _;exact ⟨_,hy,h.2 i x _ e hy⟩
theorem All2.pick {α β:Type} {P:α->β->Prop}:∀ {xs:List α},(∀ x ∈ xs,∃ y,P x y)->∃ ys,All2 P xs ys
 | [],_=>⟨[],All2.nil⟩
 | x :: xs,h=>by
  obtain ⟨y,hy⟩:=h x (by simp);obtain ⟨ys,hys⟩:=All2.pick (xs:=xs) λz hz=>h z (by simp [hz]);exact ⟨y :: ys,(All2.one hy).app hys⟩
def RowV (H:Hp) (p:Int) (a:Addr) (xs:List Nv):Prop:=∃ vs,H a = some (.lst vs)/\All2 (NumV H p) vs xs
theorem RowV.same {H H':Hp} {p:Int} {a:Addr} {xs:List Nv} (h:RowV H p a xs) (s:Same H H'):RowV H' p a xs:=let ⟨vs,h1,h2⟩:=h; ⟨vs,s _ _ h1,h2.mono λ_ _ k=>k.same s⟩
theorem NumV.put {H:Hp} {D:Addr} {l:List V} {o:HO} {p:Int} {v:V} {x:Nv} (h:NumV H p v x) (hD:H D = some (.lst l)):NumV (upd H D o) p v x:=by
 by_cases hp:p = 0
 .obtain ⟨t,rfl,ht⟩:=h.ref hp;exact NumV.tup hp (by rw [Zal (Zqm ht hD (by intro z; cases z))]; exact ht)
 .obtain rfl:=h.int hp;exact NumV.of hp
theorem RowV.put {H:Hp} {D:Addr} {l:List V} {o:HO} {p:Int} {a:Addr} {xs:List Nv} (h:RowV H p a xs) (hD:H D = some (.lst l)) (n:a ≠ D):RowV (upd H D o) p a xs:=let ⟨vs,h1,h2⟩:=h; ⟨vs,by rw [Zal n]; exact h1,h2.mono λ_ _ k=>k.put hD⟩
theorem RowV.ext {l:Addr} {H H':Hp} {p:Int} {a:Addr} {xs:List Nv} (h:RowV H p a xs) (b:Bag H l) (e:Ext l H H') (n:a ≠ l):RowV H' p a xs:=let ⟨vs,h1,h2⟩:=h; ⟨vs,e _ _ n h1,h2.mono λ_ _ k=>k.ext b e⟩
structure TabV (H:Hp) (p hh wd:Int) (t r:Addr) (rs:List Addr) (M:Mv):Prop where
 tup:H t = some (.tup [.int hh,.int wd,.ref r])
 lst:H r = some (.lst (rs.map V.ref))
 row:All2 (RowV H p) rs M
 nin:r ∉ rs
theorem TabV.same {H H':Hp} {p hh wd:Int} {t r:Addr} {rs:List Addr} {M:Mv} (h:TabV H p hh wd t r rs M) (s:Same H H'):TabV H' p hh wd t r rs M:=⟨s _ _ h.tup,s _ _ h.lst,h.row.mono λ_ _ k=>k.same s,h.nin⟩
theorem TabV.ext {l:Addr} {H H':Hp} {p hh wd:Int} {t r:Addr} {rs:List Addr} {M:Mv} (h:TabV H p hh wd t r rs M) (b:Bag H l) (e:Ext l H H') (nr:r ≠ l) (ns:l ∉ rs):TabV H' p hh wd t r rs M:=
 ⟨e _ _ (λz=>by obtain ⟨x,y,hb,_⟩:=b; rw [<- z,h.tup] at hb; cases hb) h.tup,e _ _ nr h.lst,h.row.monoM λa _ ha k=>k.ext b e (λz=>ns (z ▸ ha)),h.nin⟩
def Shp (hh wd:Int) (M:Mv):Prop:=(M.length:Int) = hh/\∀ row ∈ M,(row.length:Int) = wd
def GoodM (p:Int) (B:Nat) (M:Mv):Prop:=∀ row ∈ M,∀ x ∈ row,Isn p x/\Bd B x
theorem Tab.byV {H:Hp} {p hh wd:Int} {t r:Addr} {rs:List Addr} (h:Tab H p hh wd t r rs):∃ M,TabV H p hh wd t r rs M/\Shp hh wd M/\GoodM p BB M:=by
 obtain ⟨M,hM⟩:=All2.pick (P:=λa xs=>RowV H p a xs/\(xs.length:Int) = wd/\∀ x ∈ xs,Isn p x/\Bd BB x) (xs:=rs) λa ha=>by
  obtain ⟨vs,h1,h2,h3⟩:=h.row a ha;obtain ⟨xs,hxs⟩:=All2.pick (P:=λv x=>NumV H p v x/\Isn p x/\Bd BB x) (xs:=vs) λv hv=>h3 v hv;refine ⟨xs,⟨vs,h1,hxs.mono λ_ _ k=>k.1⟩,by rw [<- hxs.1]; exact h2,λx hx=>?_⟩;obtain ⟨j,hj,rfl⟩:=Jas.mp hx;obtain ⟨v,_,hv⟩:=hxs.at (Jaa hj);exact hv.2
 have at':∀ row ∈ M,∃ a,RowV H p a row/\(row.length:Int) = wd/\∀ x ∈ row,Isn p x/\Bd BB x:=λrow hr=>by
  obtain ⟨j,hj,rfl⟩:=Jas.mp hr;obtain ⟨a,_,ha⟩:=hM.at (Jaa hj);exact ⟨a,ha⟩
 exact ⟨M,⟨h.tup,h.lst,hM.mono λ_ _ k=>k.1,h.nin⟩,⟨by rw [<- hM.1]; exact h.len,λrow hr=>let ⟨_,_,b,_⟩:=at' row hr; b⟩,λrow hr=>let ⟨_,_,_,c⟩:=at' row hr; c⟩
theorem Zcb {H:Hp} {n:Nat} {i:Int}:EqD K H n (.int i) (.int i) true:=by
 have:=EqD.flat (K:=K) (H:=H) (n:=n) (x:=.int i) (y:=.int i) rfl rfl;rwa [show eqV (.int i) (.int i) = true by simp [eqV]] at this
theorem Zcr (n:Nat):(List.replicate n true).all id = true:=by simp
theorem Zj9 {H:Hp} {n:Nat} {a c:Addr} {xs ys:List V} (ha:H a = some (.lst xs)) (hc:H c = some (.lst ys)) (hl:xs.length = ys.length) (he:∀ (j:Nat) x y,xs[j]? = some x->ys[j]? = some y->EqD K H n x y true):EqD K H (n + 1) (.ref a) (.ref c) true:=by
 by_cases h:a = c
 .subst h; exact EqD.same
 .have:=EqD.list (bs:=List.replicate xs.length true) h (SqL.of ha) (SqL.of hc) hl Ja9 (λj x y b e1 e2 e3=>by
   rw [Jbw] at e3;split at e3
   .cases e3; exact he j x y e1 e2
   .cases e3)
  rwa [Zcr] at this
theorem Zuk {H:Hp} {n:Nat} {a c:Addr} {xs ys:List V} (ha:H a = some (.tup xs)) (hc:H c = some (.tup ys)) (hl:xs.length = ys.length) (he:∀ (j:Nat) x y,xs[j]? = some x->ys[j]? = some y->EqD K H n x y true):EqD K H (n + 1) (.ref a) (.ref c) true:=by
 by_cases h:a = c
 .subst h; exact EqD.same
 .have:=EqD.tuple (bs:=List.replicate xs.length true) h (SqT.of ha) (SqT.of hc) hl Ja9 (λj x y b e1 e2 e3=>by
   rw [Jbw] at e3;split at e3
   .cases e3; exact he j x y e1 e2
   .cases e3)
  rwa [Zcr] at this
theorem Zhx {H:Hp} {n:Nat} {xs ys:List V} (hl:xs.length = ys.length) (he:∀ (j:Nat) x y,xs[j]? = some x->ys[j]? = some y->EqD K H n x y true):Zfj K H n xs ys (List.replicate xs.length true):=
 ⟨hl,Ja9,λj x y b e1 e2 e3=>by
  rw [Jbw] at e3;split at e3
  .cases e3; exact he j x y e1 e2
  .cases e3⟩
theorem num_eqD {H:Hp} {n:Nat} {p:Int} {v u:V} {x:Nv} (h:NumV H p v x) (h':NumV H p u x):EqD K H (n + 1) v u true:=by
 by_cases hp:p = 0
 .obtain ⟨t,rfl,ht⟩:=h.ref hp;obtain ⟨t',rfl,ht'⟩:=h'.ref hp;refine Zuk ht ht' rfl λj x y e1 e2=>?_;rw [e1] at e2;cases e2
  match j,e1 with
  | 0,e1=>cases e1; exact Zcb
  | 1,e1=>cases e1; exact Zcb
  | j + 2,e1=>cases e1
 .obtain rfl:=h.int hp;obtain rfl:=h'.int hp;exact Zcb
theorem Zko {α:Type} {H:Hp} {n:Nat} {R R':V->α->Prop} {vs us:List V} {xs:List α} (h:All2 R vs xs) (h':All2 R' us xs) (k:∀ v u x,R v x->R' u x->EqD K H n v u true):vs.length = us.length/\∀ (j:Nat) v u,vs[j]? = some v->us[j]? = some u->EqD K H n v u true:=
 ⟨h.1.trans h'.1.symm,λj v u e1 e2=>by
  obtain ⟨x,ex,hx⟩:=h.at' e1;exact k v u x hx (h'.2 j u x e2 ex)⟩
theorem Zay {α:Type} {R:Addr->α->Prop} {rs:List Addr} {xs:List α} (h:All2 R rs xs):All2 (λv x=>∃ a,v = .ref a/\R a x) (rs.map V.ref) xs:=⟨by rw [Jab]; exact h.1,λi v x e1 e2=>by
 rw [Jad] at e1;cases e:rs[i]? with
 | none=>rw [e] at e1; cases e1
 | some a=>rw [e] at e1; cases e1; exact ⟨a,rfl,h.2 i a x e e2⟩⟩
theorem RowV.eq {H:Hp} {n:Nat} {p:Int} {a c:Addr} {xs:List Nv} (h:RowV H p a xs) (h':RowV H p c xs):EqD K H (n + 2) (.ref a) (.ref c) true:=by
 obtain ⟨vs,h1,h2⟩:=h;obtain ⟨us,h3,h4⟩:=h';obtain ⟨e1,e2⟩:=Zko (K:=K) (H:=H) (n:=n + 1) h2 h4 λv u x a b=>num_eqD a b;exact Zj9 h1 h3 e1 e2
theorem TabV.eq {H:Hp} {n:Nat} {p hh wd:Int} {t r t' r':Addr} {rs rs':List Addr} {M:Mv} (h:TabV H p hh wd t r rs M) (h':TabV H p hh wd t' r' rs' M):EqD K H (n + 4) (.ref t) (.ref t') true:=by
 refine Zuk h.tup h'.tup rfl λj x y e1 e2=>?_
 match j,e1,e2 with
 | 0,e1,e2=>cases e1; cases e2; exact Zcb
 | 1,e1,e2=>cases e1; cases e2; exact Zcb
 | 2,e1,e2=>
  cases e1; cases e2;obtain ⟨f1,f2⟩:=Zko (K:=K) (H:=H) (n:=n + 2) (Zay h.row) (Zay h'.row) λv u x ⟨a,ea,ha⟩ ⟨b,eb,hb⟩=>by subst ea; subst eb; exact ha.eq hb
  exact Zj9 h.lst h'.lst f1 f2
 | j + 3,e1,e2=>cases e1
theorem Zcc {a D:Addr} {xs:List V} {fr:List (Str × Nat)} {σ:L2.St} {te:TE} {H1:Hp} {Q:VK} (R:Nat->Hp->V->Prop) (hS:∀ {i H H' y},R i H y->Same H H'->R i H' y) (hP:∀ {i H y l o},R i H y->H D = some (.lst l)->R i (upd H D o) y)
  (ha:H1 a = some (.lst xs)) (hD:H1 D = none) (hn:xs.length<=1000)
  (h:∀ (i:Nat) x H (Q:VK),xs[i]? = some x->Same H1 H->(∃ l,H D = some (.lst l))->(∀ y H',Same H H'->R i H' y->Q y H')->te (some x :: Zbp fr σ) H Q)
  (hQ:∀ ys H',Same H1 H'->H' D = some (.lst ys)->ys.length = xs.length->(∀ (i:Nat) y,ys[i]? = some y->R i H' y)->Q (.ref D) H'):Zcg (Zb4 0) Zhq te (Itl K a) D (Zgr 1 fr σ) H1 Q:=by
 refine Zki (xs:=xs) (λi vs H=>Same H1 H/\H D = some (.lst vs)/\vs.length = i/\∀ (j:Nat) y,vs[j]? = some y->R j H y) ⟨Same.new hD,Zab,rfl,λj y e=>by simp at e⟩ (λi vs H _ p=>SqL.of (p.1 _ _ ha)) ?_ (λvs H ⟨s,e,hl,hr⟩=>hQ vs H s e hl hr);rintro i x vs σ' H hi hx sh ⟨s,e,hl,hr⟩;obtain ⟨z,rfl⟩:=sh.one;simp only [Zf6,Zb4,Zhq,Jbi,Jdf];refine h i x H _ hx s ⟨_,e⟩ λy H' s' ry=>?_;refine Zo0 (ws:=vs ++ [y]) hi Sh.mk1 (s' _ _ e) (Zau (Zmq hn hi hl)) ⟨(s.trans s').upd hD,Zab,by rw [Jam,hl]; rfl,λj u hu=>?_⟩;by_cases hj:j < vs.length
 .rw [Jbd hj] at hu;exact hP (hS (hr j u hu) s') (s' _ _ e)
 .rw [Jbb (Zhf hj)] at hu;have hj0:j - vs.length = 0:=by
   by_cases z:j - vs.length = 0
   .exact z
   .rw [Jaj (by simp; exact oz95 z)] at hu; cases hu
  rw [hj0] at hu;cases hu;rw [show j = i by exact oz79 hl hj hj0];exact hP ry (s' _ _ e)
theorem Zl0 {lo:Int} {n:Nat} {D:Addr} {fr:List (Str × Nat)} {σ:L2.St} {te:TE} {H1:Hp} {Q:VK} (R:Nat->Hp->V->Prop) (hS:∀ {i H H' y},R i H y->Same H H'->R i H' y) (hP:∀ {i H y l o},R i H y->H D = some (.lst l)->R i (upd H D o) y)
  (hD:H1 D = none) (hn:n<=1000)
  (h:∀ (i:Nat) H (Q:VK),i < n->Same H1 H->(∃ l,H D = some (.lst l))->(∀ y H',Same H H'->R i H' y->Q y H')->te (some (.int (lo + (i:Nat))) :: Zbp fr σ) H Q)
  (hQ:∀ ys H',Same H1 H'->H' D = some (.lst ys)->ys.length = n->(∀ (i:Nat) y,ys[i]? = some y->R i H' y)->Q (.ref D) H'):Zcg (Zb4 0) Zhq te (Itr lo n) D (Zgr 1 fr σ) H1 Q:=by
 refine Zgo (n:=n) (λi vs H=>Same H1 H/\H D = some (.lst vs)/\vs.length = i/\∀ (j:Nat) y,vs[j]? = some y->R j H y) ⟨Same.new hD,Zab,rfl,λj y e=>by simp at e⟩ ?_ (λvs H ⟨s,e,hl,hr⟩=>hQ vs H s e hl hr);rintro i x vs σ' H hi rfl sh ⟨s,e,hl,hr⟩;obtain ⟨z,rfl⟩:=sh.one;simp only [Zf6,Zb4,Zhq,Jbi,Jdf];refine h i H _ hi s ⟨_,e⟩ λy H' s' ry=>?_;refine Zo0 (ws:=vs ++ [y]) hi Sh.mk1 (s' _ _ e) (Zau (Zmq hn hi hl)) ⟨(s.trans s').upd hD,Zab,by rw [Jam,hl]; rfl,λj u hu=>?_⟩;by_cases hj:j < vs.length
 .rw [Jbd hj] at hu;exact hP (hS (hr j u hu) s') (s' _ _ e)
 .rw [Jbb (Zhf hj)] at hu;have hj0:j - vs.length = 0:=by
   by_cases z:j - vs.length = 0
   .exact z
   .rw [Jaj (by simp; exact oz95 z)] at hu; cases hu
  rw [hj0] at hu;cases hu;rw [show j = i by exact oz79 hl hj hj0];exact hP ry (s' _ _ e)
theorem Zm4 {ys:List V} {g:Nat->Int} {n:Nat} (hl:ys.length = n) (h:∀ (i:Nat) y,ys[i]? = some y->y = .int (g i)):ys = ((List.range n).map g).map V.int:=by
 apply Jcm;intro i;by_cases hi:i < n
 .rw [Jaa (Zck hl hi),h i _ (Jaa (Zck hl hi)),Jad,Jad,Jav hi];rfl
 .rw [Jaj (oz100 hl hi),Jaj (by simp; exact Zhf hi)]
theorem Zij {P:Nat->Addr->Prop}:∀ {ys:List V},(∀ (i:Nat) y,ys[i]? = some y->∃ b,y = .ref b/\P i b)->∃ bs:List Addr,ys = bs.map V.ref/\∀ (i:Nat) b,bs[i]? = some b->P i b:=by
 intro ys
 induction ys generalizing P with
 | nil=>exact λ_=>⟨[],rfl,λi b e=>by simp at e⟩
 | cons y ys ih=>
  intro h;obtain ⟨b,rfl,hb⟩:=h 0 y rfl;obtain ⟨bs,rfl,hbs⟩:=ih (P:=λi b=>P (i + 1) b) λi u e=>h (i + 1) u (by simpa using e);exact ⟨b :: bs,rfl,λi u e=>by
   cases i with
   | zero=>cases e; exact hb
   | succ i=>exact hbs i u (by simpa using e)⟩
theorem Zii {D:Addr} {H1 H':Hp} {p:Int} {M:Mv} {ys:List V} (hl:ys.length = M.length) (h:∀ (i:Nat) y,ys[i]? = some y->∃ a,y = .ref a/\RowV H' p a (M.getD i [])/\a ≠ D/\H1 a = none):∃ rs:List Addr,ys = rs.map V.ref/\All2 (RowV H' p) rs M/\D ∉ rs/\∀ a ∈ rs,H1 a = none:=by
 obtain ⟨rs,rfl,hr⟩:=Zij (P:=λi a=>RowV H' p a (M.getD i [])/\a ≠ D/\H1 a = none) h;rw [Jab] at hl;refine ⟨rs,rfl,⟨hl,λi a xs e1 e2=>?_⟩,λz=>?_,λa ha=>?_⟩
 .have:=(hr i a e1).1;rwa [Jac,e2] at this
 .obtain ⟨j,hj,e⟩:=Jas.mp z;exact (hr j D (by rw [Jaa hj,e])).2.1 rfl
 .obtain ⟨j,hj,rfl⟩:=Jas.mp ha;exact (hr j _ (Jaa hj)).2.2
structure New (H:Hp) (t r:Addr) (rs:List Addr):Prop where
 t:H t = none
 r:H r = none
 rs:∀ a ∈ rs,H a = none
theorem Zah {α:Type} {xs:List α} {i:Nat} {x d:α} (h:xs[i]? = some x):xs.getD i d = x:=by rw [Jac,h]; rfl
def Zja:Sp:=λvs H Q _=>∃ (p hh wd:Int) (t r:Addr) (rs:List Addr) (M:Mv),vs = [.ref t]/\TabV H p hh wd t r rs M/\M.length<=200/\∀ (t' r':Addr) (rs':List Addr) (H':Hp),Same H H'->New H t' r' rs'->TabV H' p hh wd t' r' rs' M->Q (.ref t') H'
theorem ok_copy {f:Addr} {fd:FuncData} (F:Fun K "_law_copy" "_law_copy" Zdo f fd) (T:Txt K mg C):FnOk P w K mg base CX0 1 f fd ["_law_table_here"] Zja:=by
 have nd:=Zic.nd;refine F.ok Zic (λvs H Q E h=>?_) (λcdv A outer s H vs Q E hr h=>?_)
 .obtain ⟨p,hh,wd,t,r,rs,M,rfl,_⟩:=h;rfl
 .obtain ⟨p,hh,wd,t,r,rs,M,rfl,tb,ml,q⟩:=h;have hln:=tb.row.1;refine ⟨_,(~~~(@Za9 _ _ _ _ _ ((Zaq<|>(pv 0)<||>Zac)<&>((Zaq<|>(pv 0)<||>Zac)<&>((Za6 (own:=["_law_row"]) (fr:=[]) rfl (Zb0 (by kernel_rfl)) (Zbd (Zaq<|>(pv 0)<||>Zac)) (λ_ _ _ _=>⟨(@Zae _ _ 0 _ (show (["_law_row"]:List Str).Nodup by decide +kernel) rfl (Or.inl rfl) (Or.inr rfl)),Za1,(Zp2 (Zkk K rfl) rfl T.n_list boot_list ((pv 0)<&>Zaa))⟩))<&>Zaa))))),?_⟩;walk_at "wp";refine ⟨_,SqT.of tb.tup,_,rfl,_,SqT.of tb.tup,_,rfl,?_⟩;refine ⟨_,rfl,t,_,2,_,rfl,rfl,SqT.of tb.tup,rfl,r,rfl,⟨_,SqL.of tb.lst⟩,λD hD=>?_⟩;refine Zcc (λi Hc y=>∃ a,y = .ref a/\RowV Hc p a (M.getD i [])/\a ≠ D/\H a = none) (λ⟨a,e,b,c⟩ s=>⟨a,e,b.same s,c⟩) (λ⟨a,e,b,c,d⟩ hD=>⟨a,e,b.put hD c,c,d⟩) tb.lst hD (by rw [Jab]; omega) (λi x H' Q' hx s' ⟨lD,hlD⟩ q'=>?_) (λys H' s' h' hyl hys=>?_)
  .obtain ⟨row,er,a,rfl,vs,h1,h2⟩:=(Zay tb.row).at' hx;refine ⟨_,rfl,_,rfl,vs,.inl (SqL.of (s' _ _ h1)),λc hc=>?_⟩;have sc:=s'.trans (Same.new (o:=.lst vs) hc);exact q' _ _ (Same.new hc) ⟨c,rfl,⟨vs,Zab,by rw [Zah er]; exact h2.mono λ_ _ k=>k.same sc⟩,(Zaj hlD hc).symm,s'.free hc⟩
  .rw [Jab] at hyl;obtain ⟨rs',rfl,a2,nD,fr⟩:=Zii (D:=D) (H1:=H) (p:=p) (M:=M) (oz58 hln hyl) hys;refine ⟨by show 3<=sizeLine; decide,λt' ht'=>?_⟩;have s2:=Same.new (o:=.tup [.int hh,.int wd,.ref D]) ht';exact q t' D rs' _ (s'.trans s2) ⟨s'.free ht',hD,fr⟩ ⟨Zab,s2 _ _ h',a2.mono λ_ _ k=>k.same s2,nD⟩
def Znh:Sp:=λvs H Q _=>∃ (p hh wd:Int) (t r t' r':Addr) (rs rs':List Addr) (M:Mv),vs = [.int p,.ref t,.ref t']/\GroundP p/\TabV H p hh wd t r rs M/\TabV H p hh wd t' r' rs' M/\(∀ row ∈ M,row.length<=900)/\∀ H',Same H H'->Q (.bl true) H'
theorem ok_good {f:Addr} {fd:FuncData} (F:Fun K "_law_good" "_law_good" Zdm f fd) (T:Txt K mg C) (C_law_whole:Cal P w K mg base "_law_whole" 1 Zf7) (C_law_same:Cal P w K mg base "_law_same" 2 Zpg):FnOk P w K mg base CX0 3 f fd ["_law_p","_law_found","_law_due"] Znh:=by
 have nd:=Zia.nd;refine F.ok Zia (λvs H Q E h=>?_) (λcdv A outer s H vs Q E hr h=>?_)
 .obtain ⟨p,hh,wd,t,r,t',r',rs,rs',M,rfl,_⟩:=h;rfl
 .obtain ⟨p,hh,wd,t,r,t',r',rs,rs',M,rfl,hp,tb,tb',ml,q⟩:=h;refine ⟨_,((@Za4 _ _ _ _ _ _ _ _ (PW.pt (Zhl (Zd3 (Zd2 (Zcj Zb6 rfl T.n_isinstance Jc5 ((pv 1)<&>((Zla rfl T.n_tuple boot_tuple)<&>Zaa))))) (Zhl (Zai Zgn (Zcj Zb5 rfl T.n_len Jdq ((pv 1)<&>Zaa)) Zac (Zan _)) (Zhl (Zd3 (Zd2 (Za5 C_law_whole hr.m rfl ((Zaq<|>(pv 1)<||>Zac)<&>Zaa)))) (Zgk (Zd3 (Zd2 (Za5 C_law_whole hr.m rfl ((Zaq<|>(pv 1)<||>Zac)<&>Zaa))))))))) (~~~Zes) Zao)<*>((@Za4 _ _ _ _ _ _ _ _ (PW.pt (Zhl (Zd3 (Zd2 (Zcj Zb6 rfl T.n_isinstance Jc5 ((Zaq<|>(pv 1)<||>Zac)<&>((Zla rfl T.n_list boot_list)<&>Zaa))))) (Zgk (Zai (op_neTs (Zfa hr)) (pv 1) (pv 2) (Zan _))))) (~~~Zes) Zao)<*>((Zco Ja8 rfl (Zbd (Zaq<|>(pv 1)<||>Zac)) (@Zae _ _ 3 _ nd rfl (Or.inl rfl) (Or.inl rfl)) (@Zas _ _ _ (@Za4 _ _ _ _ _ _ _ _ (PW.pt (Zhl (Zd3 (Zd2 (Zcj Zb6 rfl T.n_isinstance Jc5 ((pv 3)<&>((Zla rfl T.n_list boot_list)<&>Zaa))))) (Zgk (Zd3 (Zd2 (Zcj (Zn8 rfl) rfl T.n_all boot_all ((Za6 (own:=["_law_number_here"]) (fr:=[("_law_p",0)]) rfl (Zb0 (by kernel_rfl)) (Zbd (pv 3)) (λ_ _ _ _=>⟨(@Zae _ _ 0 _ (show (["_law_number_here","_law_p"]:List Str).Nodup by decide +kernel) rfl (Or.inl rfl) (Or.inr rfl)),Za1,(Za5 C_law_same hr.m rfl ((pv 1)<&>((pv 0)<&>((pv 0)<&>Zaa))))⟩))<&>Zaa))))))) (~~~Zes) Zao)))<*>(~~~Zes)))),?_⟩;refine cutA λX hX=>?_;walk_at "wp";refine ⟨_,_,⟨rfl,rfl⟩,_,rfl,_,.tup tb.tup,_,Zlm K,Znu ⟨_,.inr (SqT.of tb.tup),Znu ⟨_,SqT.of tb.tup,_,rfl,_,rfl,true,rfl,Znu ⟨_,SqT.of tb.tup,_,rfl,_,rfl,true,rfl,Znu ?_⟩⟩⟩⟩;subst hX;refine cutA λX hX=>?_;walk_at "wp";refine ⟨_,SqT.of tb.tup,_,rfl,_,_,⟨rfl,rfl⟩,_,rfl,_,.lst tb.lst,true,by kernel_rfl,Znu ?_⟩;refine .inr ⟨t,t',_,_,_,rfl,rfl,SqT.of tb.tup,SqT.of tb'.tup,Zhx rfl (λj x y e1 e2=>?_),⟨_,rfl,Zfy (by rw [Zcr]; decide) ?_⟩⟩
  .match j,e1,e2 with
   | 0,e1,e2=>cases e1; cases e2; exact Zcb
   | 1,e1,e2=>cases e1; cases e2; exact Zcb
   | 2,e1,e2=>
    cases e1; cases e2;obtain ⟨f1,f2⟩:=Zko (K:=K) (H:=H) (n:=5) (Zay tb.row) (Zay tb'.row) λv u x ⟨a,ea,ha⟩ ⟨b,eb,hb⟩=>by subst ea; subst eb; exact ha.eq hb
    exact Zj9 tb.lst tb'.lst f1 f2
   | j + 3,e1,e2=>cases e1
  subst hX;walk_at "wp";refine ⟨_,rfl,t,_,2,_,rfl,rfl,SqT.of tb.tup,rfl,r,rfl,⟨_,SqL.of tb.lst⟩,Zfu (xs:=rs.map V.ref) (λi σ H2=>∃ v3:Option V,σ = [some (.int p),some (.ref t),some (.ref t'),v3]/\Same H H2) ⟨none,rfl,Same.refl _⟩ (λi σ H2 _ ⟨_,_,s2⟩=>SqL.of (s2 _ _ tb.lst)) ?_ ?_⟩
  .rintro i x σ H2 hi ⟨v3,rfl,s2⟩;obtain ⟨row,er,a,rfl,vs,h1,h2⟩:=(Zay tb.row).at' hi;have rl:=ml row (Jae er);walk_at "wp";have h1':=s2 _ _ h1;have h2l:=h2.1;refine ⟨_,_,⟨rfl,rfl⟩,_,rfl,_,.lst h1',true,Zm0 K,Znu ⟨_,rfl,a,rfl,⟨_,SqL.of h1'⟩,λD hD=>Zrr (λ_=>true) h1' hD (by omega) (λi y H' Q' hy s' q'=>?_) λH' s' e'=>⟨D,rfl,_,SqL.of e',Zfy (by simp) (s2.trans s')⟩⟩⟩;obtain ⟨x,_,hx⟩:=h2.at' hy;have hx':=hx.same (s2.trans s');exact ⟨_,rfl,_,rfl,_,rfl,p,y,y,x,rfl,hp,hx',hx',q' H' (Same.refl _)⟩
  .rintro σ H2 ⟨v3,rfl,s2⟩;exact q H2 s2
abbrev Tv:=Int × Int × Mv
abbrev t0:Tv:=(0,0,[])
abbrev hF (cs:List Tv) (i:Nat):Int:=(cs.getD i t0).1
abbrev wF (cs:List Tv) (i:Nat):Int:=(cs.getD i t0).2.1
abbrev mF (cs:List Tv) (i:Nat):Mv:=(cs.getD i t0).2.2
noncomputable def Zhi (g:Nat->Int):Nat->Int
 | 0=>0
 | n + 1=>Zhi g n + g n
theorem Zku (g:Nat->Int) (N:Nat):∀ n,n<=N->preSum (λi=>((List.range N).map g).getD i 0) n = Zhi g n
 | 0,_=>rfl
 | n + 1,h=>by
  unfold preSum Zhi;rw [Zku g N n (by omega)];congr 1;rw [Jac,Jad,Jav (by omega)];rfl
theorem Zkv {g:Nat->Int} {N:Nat} (h:∀ i,i < N->0<=g i):∀ {n},n<=N->0<=Zhi g n/\Zhi g n<=Zhi g N:=by
 have key:∀ k n,n + k<=N->Zhi g n<=Zhi g (n + k):=by
  intro k
  induction k with
  | zero=>intro n _; exact Int.le_refl _
  | succ k ih=>
   intro n hn;have a:=ih n (by omega);have b:=h (n + k) (by omega);show Zhi g n<=Zhi g (n + k) + g (n + k);omega
 intro n hn;have a:=key n 0 (by omega);have b:=key (N - n) n (by omega);rw [show n + (N - n) = N by exact oz40 hn] at b;rw [Nat.zero_add] at a;exact ⟨a,b⟩
theorem Zmd {g:Nat->Int} {B:Int}:∀ {n:Nat},(∀ i,i < n->g i<=B)->Zhi g n<=n * B
 | 0,_=>by unfold Zhi; omega
 | n + 1,h=>by
  have a:=Zmd (g:=g) (B:=B) (n:=n) λi hi=>h i (Zfw hi);have b:=h n (by omega);unfold Zhi;rw [show ((n + 1:Nat):Int) * B = n * B + B by rw [Int.natCast_add,Int.add_mul]; simp];omega
theorem Zgp {a D:Addr} {xs:List V} {fr:List (Str × Nat)} {σ:L2.St} {te:TE} {H1:Hp} {Q:VK} (g:Nat->Int) (ha:H1 a = some (.lst xs)) (hD:H1 D = none) (hn:xs.length<=1000)
  (h:∀ (i:Nat) x H (Q:VK),xs[i]? = some x->Same H1 H->(∀ H',Same H H'->Q (.int (g i)) H')->te (some x :: Zbp fr σ) H Q)
  (hQ:∀ H',Same H1 H'->H' D = some (.lst (((List.range xs.length).map g).map V.int))->Q (.ref D) H'):Zcg (Zb4 0) Zhq te (Itl K a) D (Zgr 1 fr σ) H1 Q:=
 Zcc (λi _ y=>y = .int (g i)) (λr _=>r) (λr _=>r) ha hD hn (λi x H Q hx s _ k=>h i x H Q hx s λH' s'=>k _ H' s' rfl) (λys H' s e hl hr=>hQ H' s (by rw [e,Zm4 hl hr]))
structure FewC (cs:List Tv):Prop where
 few:cs.length<=9
 bd:∀ i,i < cs.length->0<=hF cs i/\hF cs i<=24/\0<=wF cs i/\wF cs i<=24/\Shp (hF cs i) (wF cs i) (mF cs i)
theorem FewC.sums {cs:List Tv} (h:FewC cs) {n:Nat} (hn:n<=cs.length):0<=Zhi (wF cs) n/\Zhi (wF cs) n<=Zhi (wF cs) cs.length/\Zhi (wF cs) cs.length<=216/\0<=Zhi (hF cs) n/\Zhi (hF cs) n<=Zhi (hF cs) cs.length/\Zhi (hF cs) cs.length<=216:=by
 have a:=Zkv (g:=wF cs) (N:=cs.length) (λi hi=>(h.bd i hi).2.2.1) hn;have b:=Zkv (g:=hF cs) (N:=cs.length) (λi hi=>(h.bd i hi).1) hn;have c:=Zmd (g:=wF cs) (B:=24) (n:=cs.length) (λi hi=>(h.bd i hi).2.2.2.1);have d:=Zmd (g:=hF cs) (B:=24) (n:=cs.length) (λi hi=>(h.bd i hi).2.1);have e:=h.few;have k:(cs.length:Int) * 24<=216:=by omega
 exact ⟨a.1,a.2,by omega,b.1,b.2,by omega⟩
structure TbsV (H:Hp) (p:Int) (a:Addr) (ts:List Addr) (cs:List Tv):Prop where
 lst:H a = some (.lst (ts.map V.ref))
 tab:All2 (λt c=>∃ r rs,TabV H p c.1 c.2.1 t r rs c.2.2) ts cs
theorem TbsV.same {H H':Hp} {p:Int} {a:Addr} {ts:List Addr} {cs:List Tv} (h:TbsV H p a ts cs) (s:Same H H'):TbsV H' p a ts cs:=⟨s _ _ h.lst,h.tab.mono λ_ _ ⟨r,rs,k⟩=>⟨r,rs,k.same s⟩⟩
theorem TbsV.at {H:Hp} {p:Int} {a:Addr} {ts:List Addr} {cs:List Tv} (h:TbsV H p a ts cs) {i:Nat} {x:V} (e:(ts.map V.ref)[i]? = some x):i < cs.length/\∃ t r rs,x = .ref t/\ts[i]? = some t/\TabV H p (hF cs i) (wF cs i) t r rs (mF cs i):=by
 rw [Jad] at e;cases f:ts[i]? with
 | none=>rw [f] at e; cases e
 | some t=>
  rw [f] at e;cases e;obtain ⟨c,ec,r,rs,k⟩:=h.tab.at' f;refine ⟨(Jah.mp ec).1,t,r,rs,rfl,rfl,?_⟩;show TabV H p (cs.getD i t0).1 (cs.getD i t0).2.1 t r rs (cs.getD i t0).2.2;rw [Zah ec];exact k
def Zhk (cs:List Tv) (j:Nat):Nat->List Nv
 | 0=>[]
 | k + 1=>Zhk cs j k ++ (mF cs k).getD j []
abbrev Zk2 (cs:List Tv) (n k:Nat):Mv:=(List.range n).map λj=>Zhk cs j k
theorem Zk1 {cs:List Tv} (h:FewC cs) {j:Nat} {hh:Int} (hj:(j:Int) < hh):∀ {k:Nat},k<=cs.length->(∀ i,i < k->hF cs i = hh)->((Zhk cs j k).length:Int) = Zhi (wF cs) k
 | 0,_,_=>rfl
 | k + 1,hk,e=>by
  have ih:=Zk1 h hj (k:=k) (by omega) λi hi=>e i (Zfw hi);unfold Zhk Zhi;obtain ⟨_,_,_,_,s1,s2⟩:=h.bd k (by omega);have e1:=e k (by omega);rw [Jam];have:((mF cs k).getD j []).length = wF cs k:=by
   have hj':j < (mF cs k).length:=by omega
   rw [Jac,Jaa hj'];exact s2 _ (Jaw hj')
  omega
noncomputable def mid (cs:List Tv) (n k i:Nat):Mv:=(List.range n).map λj=>Zhk cs j (if j < i then k + 1 else k)
theorem Zto (cs:List Tv) (n k:Nat):mid cs n k 0 = Zk2 cs n k:=by
 unfold mid Zk2;simp
theorem mid_all (cs:List Tv) (n k:Nat):mid cs n k n = Zk2 cs n (k + 1):=by
 unfold mid Zk2;refine Jct λj hj=>?_;rw [if_pos (Ja4.mp hj)]
theorem mid_set (cs:List Tv) (n k i:Nat):(mid cs n k i).set i (Zhk cs i (k + 1)) = mid cs n k (i + 1):=by
 unfold mid;apply Jcm;intro j;rw [Jcu];by_cases hij:i = j
 .subst hij;rw [if_pos rfl];by_cases hn:i < n
  .rw [if_pos (by simpa using hn),Jad,Jav hn];simp
  .rw [if_neg (by simpa using hn),Jad,Jaj (by simpa using hn)];rfl
 .rw [if_neg hij,Jad,Jad];by_cases hn:j < n
  .rw [Jav hn];show some (Zhk cs j (if j < i then k + 1 else k)) = some (Zhk cs j (if j < i + 1 then k + 1 else k));by_cases h1:j < i
   .rw [if_pos h1,if_pos (Zfw h1)]
   .rw [if_neg h1,if_neg (by omega)]
  .rw [Jaj (by simpa using hn)];rfl
theorem empties {lo:Int} {n:Nat} {D:Addr} {fr:List (Str × Nat)} {σ:L2.St} {te:TE} {H1:Hp} {Q:VK} (hD:H1 D = none) (hn:n<=1000) (ht:∀ (i:Nat) H (Q:VK),(∀ a,H a = none->Q (.ref a) (upd H a (.lst [])))->te (some (.int (lo + (i:Nat))) :: Zbp fr σ) H Q)
  (hQ:∀ (rs:List Addr) H',Same H1 H'->H' D = some (.lst (rs.map V.ref))->rs.length = n->D ∉ rs->rs.Nodup->(∀ a ∈ rs,H1 a = none)->(∀ a ∈ rs,H' a = some (.lst []))->Q (.ref D) H'):Zcg (Zb4 0) Zhq te (Itr lo n) D (Zgr 1 fr σ) H1 Q:=by
 refine Zgo (n:=n) (λi vs H=>∃ rs:List Addr,vs = rs.map V.ref/\Same H1 H/\H D = some (.lst (rs.map V.ref))/\rs.length = i/\D ∉ rs/\rs.Nodup/\(∀ a ∈ rs,H1 a = none)/\∀ a ∈ rs,H a = some (.lst [])) ⟨[],rfl,Same.new hD,Zab,rfl,by simp,by simp,by simp,by simp⟩ ?_ (λvs H ⟨rs,e,a,b,c,d,f,g,h⟩=>hQ rs H a b c d f g h);rintro i x vs σ' H hi rfl sh ⟨rs,rfl,s,e,hl,nD,nd,fr,em⟩;obtain ⟨z,rfl⟩:=sh.one;simp only [Zf6,Zb4,Zhq,Jbi,Jdf];refine ht i H _ λa ha=>?_;have nDa:D ≠ a:=Zaj e ha;have s':=Same.new (o:=.lst []) ha;have na:a ∉ rs:=λz=>by rw [em a z] at ha; cases ha
 refine Zo0 (ws:=rs.map V.ref ++ [.ref a]) hi Sh.mk1 (s' _ _ e) (Zau (by rw [Jab]; exact Zmq hn hi hl)) ⟨rs ++ [a],Zcp _ _,(s.trans s').upd hD,by rw [Zab,Zcp],by rw [Jam,hl]; rfl,λz=>?_,?_,λb hb=>?_,λb hb=>?_⟩
 .rcases Jal.mp z with h | h
  .exact nD h
  .exact nDa (Ja1.mp h)
 .rw [List.nodup_append];exact ⟨nd,by simp,λx hx y hy e=>na (by rw [<- Ja1.mp hy,<- e]; exact hx)⟩
 .rcases Jal.mp hb with h | h
  .exact fr b h
  .rw [Ja1.mp h]; exact s.free ha
 .rcases Jal.mp hb with h | h
  .rw [Zal (λz=>nD (by rw [<- z]; exact h))]; exact s' _ _ (em b h)
  .rw [Ja1.mp h,Zal nDa.symm]; exact Zab
def Znf (C:Addr):Sp:=λvs H Q E=>∃ (g a:Addr) (p hh:Int) (ts:List Addr) (cs:List Tv),vs = [.ref g,.int hh,.ref a]/\0<=hh/\hh<=24/\TbsV H p a ts cs/\FewC cs /\
 (∀ i,i < cs.length->hF cs i = hh)/\((∀ i,i < cs.length->hF cs i = hh)->∀ t r rs H',Same H H'->New H t r rs->TabV H' p hh (Zhi (wF cs) cs.length) t r rs (Zk2 cs hh.toNat cs.length)->Q (.ref t) H')
theorem ok_side {f:Addr} {fd:FuncData} (F:Fun K "side_by_side" "side_by_side" Zbx f fd) (T:Txt K mg C):FnOk P w K mg base CX0 1 f fd ["ground","high","tables"] (Znf C):=by
 have nd:=Ze8.nd;refine F.ok Ze8 (λvs H Q E h=>?_) (λcdv A outer s H vs Q E hr h=>?_)
 .obtain ⟨g,a,p,hh,ts,cs,rfl,_⟩:=h;rfl
 .obtain ⟨g,a,p,hh,ts,cs,rfl,h0,h24,hT,fc,bad,good⟩:=h;have few:=fc.few;have tl:=hT.tab.1;refine ⟨_,((Zf9 (i:=3) (own:=["place"]) (fr:=[]) rfl (Zb0 (by kernel_rfl)) (Zgb rfl T.n_range ((pv 1)<&>Zaa)) (λ_ _ _ _=>⟨(@Zae _ _ 0 _ (show (["place"]:List Str).Nodup by decide +kernel) rfl (Or.inl rfl) (Or.inr rfl)),Za1,(@Zce _ _ _ _ Zaa)⟩) nd rfl rfl rfl)<*>((Zco Ja8 rfl (Zbd (pv 2)) (@Zae _ _ 4 _ nd rfl (Or.inl rfl) (Or.inl rfl)) ((@Za4 _ _ _ _ _ _ _ _ (Zai Zgn (Zaq<|>(pv 4)<||>Zac) (pv 1) (Zan _)) (@Zas _ _ _ Zfr) Zao)<*>(@Zas _ _ _ (Zco Ja8 rfl (Zgb rfl T.n_range ((pv 1)<&>Zaa)) (@Zae _ _ 5 _ nd rfl (Or.inl rfl) (Or.inl rfl)) (@Zas _ _ _ (Zdx (Zhm Jbk PySem.F.slot_list_extend PySem.F.type_list_extend Zlh (Zat<|>(pv 3)<||>(pv 5)) ((Zat<|>(Zaq<|>(pv 4)<||>Zac)<||>(pv 5))<&>Zaa))))))))<*>(~~~(@Za9 _ _ _ _ _ ((pv 1)<&>((Zcj (Zn7 rfl) rfl T.n_sum boot_sum ((Za6 (own:=["table"]) (fr:=[]) rfl (Zb0 (by kernel_rfl)) (Zbd (pv 2)) (λ_ _ _ _=>⟨(@Zae _ _ 0 _ (show (["table"]:List Str).Nodup by decide +kernel) rfl (Or.inl rfl) (Or.inr rfl)),Za1,((Zka K rfl)<|>(pv 0)<||>Zac)⟩))<&>Zaa))<&>((pv 3)<&>Zaa))))))),?_⟩;walk_at "wp";refine ⟨_,rfl,hh,rfl,by omega,by omega,λD hD=>empties hD (by omega) (λi H' Q' q'=>⟨by decide,λa ha=>q' a ha⟩) λrs H1 s1 hD1 hl1 nD nds fr em=>?_⟩;refine ⟨_,rfl,a,rfl,⟨_,SqL.of (s1 _ _ hT.lst)⟩,Zfu (xs:=ts.map V.ref) (λi σ H3=>∃ v4 v5:Option V,σ = [some (.ref g),some (.int hh),some (.ref a),some (.ref D),v4,v5]/\Same H H3/\H3 D = some (.lst (rs.map V.ref))/\All2 (RowV H3 p) rs (Zk2 cs hh.toNat i)/\∀ j,j < i->hF cs j = hh)
   ⟨none,none,rfl,s1,hD1,⟨by simp; omega,λi x y e1 e2=>?_⟩,λj hj=>by omega⟩ (λi σ H3 _ ⟨_,_,_,s3,_⟩=>SqL.of (s3 _ _ hT.lst)) ?_ ?_⟩
  .rw [Jad] at e2;cases h:(List.range hh.toNat)[i]? with
   | none=>rw [h] at e2; cases e2
   | some m=>rw [h] at e2; cases e2; exact ⟨[],em x (Jae e1),All2.nil⟩
  .rintro i x σ H3 hi ⟨v4,v5,rfl,s3,h3,a3,eq3⟩;obtain ⟨hic,t,r,rs0,rfl,et,tb⟩:=(hT.same s3).at hi;obtain ⟨b1,b2,b3,b4,sh⟩:=fc.bd i hic;walk_at "wp";refine ⟨_,SqT.of tb.tup,_,rfl,rfl,Zdz (λhc=>absurd (bad i hic) (λz=>by simp [z] at hc)) (λhc=>?_)⟩;have hih:hF cs i = hh:=by simpa using hc
   refine ⟨_,rfl,hh,rfl,by omega,by omega,Zch (λk σ H4=>∃ v5:Option V,σ = [some (.ref g),some (.int hh),some (.ref a),some (.ref D),some (.ref t),v5]/\Same H H4/\H4 D = some (.lst (rs.map V.ref))/\All2 (RowV H4 p) rs (mid cs hh.toNat i k)) ⟨v5,rfl,s3,h3,by rw [Zto]; exact a3⟩ ?_ ?_⟩
   .rintro k σ H4 hk ⟨u5,rfl,s4,h4,a4⟩;obtain ⟨_,t',r',rs1,z1,et',tb4⟩:=(hT.same s4).at hi;cases z1;rw [et] at et';have hk1:k < rs.length:=by omega
    have e1:rs[k]? = some rs[k]:=Jaa hk1;have hk2:k < (mF cs i).length:=by have:=sh.1; omega
    have e2:(mF cs i)[k]? = some (mF cs i)[k]:=Jaa hk2;obtain ⟨b,eb,zs,hz1,hz2⟩:=tb4.row.at e2;obtain ⟨row,er,xs,hx1,hx2⟩:=a4.at' e1;have erow:row = Zhk cs k i:=by
     unfold mid at er;rw [Jad,Jav (by omega)] at er;have:Zhk cs k (if k < k then i + 1 else i) = row:=by simpa using er
     rw [<- this,if_neg (by omega)]
    have fk:=fr _ (Jaw hk1);have sl:=sh.2 _ (Jaw hk2);have rl:=Zk1 fc (j:=k) (hh:=hh) (Zs7 hk) (k:=i) (oz154 hic) eq3;have sm:=(fc.sums (n:=i) (oz154 hic))
    have lx:=hx2.1;have lz:=hz2.1;rw [erow] at lx;walk_at "wp";have kk:(0:Int) + (k:Int) = ((k:Nat):Int):=by omega
    rw [kk];refine ⟨_,SqL.of h4,.ref rs[k],Zcx Ze3 (by rw [Jau,Jad,e1]; rfl),.inl ⟨rfl,_,SqL.of hx1⟩,_,SqT.of tb4.tup,_,rfl,_,rfl,_,SqL.of tb4.lst,_,Zcx Ze3 (by rw [Jau,Jad,eb]; rfl),_,_,xs,zs,rfl,rfl,hx1,hz1,Jcd (Zau (by omega)),s4.upd fk,?_,?_⟩
    .rw [Zal (λz=>nD (by rw [z]; exact Jaw hk1))];exact h4
    .rw [<- mid_set];have nself:rs.set k rs[k] = rs:=List.set_getElem_self hk1;have key:All2 (RowV (upd H4 rs[k] (.lst (xs ++ zs))) p) rs ((mid cs hh.toNat i k).set k (Zhk cs k (i + 1))):=by
      refine ⟨by rw [Jay]; exact a4.1,λj c y f1 f2=>?_⟩;rw [Jcu] at f2;by_cases hjk:k = j
      .subst hjk;rw [e1] at f1;cases f1;rw [if_pos rfl] at f2;split at f2
       .cases f2;refine ⟨xs ++ zs,Zab,?_⟩;unfold Zhk;rw [Zah e2,<- erow];exact (hx2.mono λ_ _ q=>q.put hx1).app (hz2.mono λ_ _ q=>q.put hx1)
       .cases f2
      .rw [if_neg hjk] at f2;have ncj:c ≠ rs[k]:=λz=>hjk (by
        have hj:j < rs.length:=(Jah.mp f1).1;have e:rs[j] = rs[k]:=by rw [Jaa hj] at f1; cases f1; exact z
        rcases Jff k j with h | h | h
        .exact absurd e.symm (Jbn.mp nds k j hk1 hj h)
        .exact h
        .exact absurd e (Jbn.mp nds j k hj hk1 h))
       exact (a4.2 j c y f1 f2).put hx1 ncj
     exact key
   .rintro σ H4 ⟨u5,rfl,s4,h4,a4⟩;exact ⟨_,_,rfl,s4,h4,by rw [<- mid_all]; exact a4,λj hj=>by
     by_cases h:j = i
     .rw [h]; exact hih
     .exact eq3 j (Zmp hj h)⟩
  .rintro σ H3 ⟨v4,v5,rfl,s3,h3,a3,eq3⟩;walk_at "wp";rw [Jab,tl] at a3 eq3;have hT3:=hT.same s3;refine ⟨_,rfl,a,rfl,⟨_,SqL.of hT3.lst⟩,λD2 hD2=>Zgp (wF cs) hT3.lst hD2 (by rw [Jab]; omega) (λi x H' Q' hx s' q'=>?_) λH4 s4 e4=>?_⟩
   .obtain ⟨_,t,r,rs0,rfl,_,tb⟩:=hT3.at hx;exact ⟨_,rfl,t,_,_,_,rfl,rfl,SqT.of (s' _ _ tb.tup),rfl,q' H' (Same.refl _)⟩
   .rw [Jab,tl] at e4;refine ⟨D2,rfl,_,SqL.of e4,by decide,λt ht=>?_⟩;rw [Jab,Jao,Zku _ _ _ (Jag _)];have s5:=Same.new (o:=.tup [V.int hh,V.int (Zhi (wF cs) cs.length),V.ref D]) ht;have s34:=s4.trans s5;exact good eq3 t D rs _ (s3.trans s34) ⟨(s3.trans s4).free ht,hD,fr⟩ ⟨Zab,s34 _ _ h3,a3.mono λ_ _ q=>q.same s34,nD⟩
theorem Zfv {A X:TS} {D:Ends} {σ:L2.St} {H:Hp} (h:∀ X',X' = X->Zi7 A X' D σ H):Zi7 A X D σ H:=h X rfl
theorem Znb {z:Int} (h:z.natAbs < 170141183460469231731687303715884105728):Bt 127 z:=Ja0 h (by decide +kernel)
def Zpm:Sp:=λvs H Q _=>∃ x0 y0:Int,vs = [.int x0,.int y0]/\18446744073709551616<=x0/\x0 < 85070591730234615865843651857942052864/\0<=y0/\y0<=x0 /\
 ∀ (a b c d x y:Int) (t:Addr) (H':Hp),Same H H'->H' t = some (.tup [.int a,.int b,.int c,.int d])->Steps x0 y0 a b c d x y->Q (.ref t) H'
theorem ok_lead {f:Addr} {fd:FuncData} (F:Fun K "leading_steps" "leading_steps" Zbk f fd) (T:Txt K mg C) (hpt:P.given.tree = none):FnOk P w K mg base CX0 1 f fd ["one","other"] Zpm:=by
 have nd:=Zez.nd;refine F.ok Zez (λvs H Q E h=>?_) (λcdv A outer s H vs Q E hr h=>?_)
 .obtain ⟨x0,y0,rfl,_⟩:=h;rfl
 .obtain ⟨x0,y0,rfl,hx64,hx,hy0,hyx,q⟩:=h;refine ⟨_,((Zbm (@Za9 _ _ _ _ _ (Zac<&>(Zac<&>(Zac<&>(Zac<&>Zaa))))) (@Zcd _ _ _ _ _ 4 rfl (@Zag _ _ _ _ _ (@Zae _ _ 2 _ nd rfl (Or.inl rfl) (Or.inl rfl)) (@Zag _ _ _ _ _ (@Zae _ _ 3 _ nd rfl (Or.inl rfl) (Or.inl rfl)) (@Zag _ _ _ _ _ (@Zae _ _ 4 _ nd rfl (Or.inl rfl) (Or.inl rfl)) (@Zag _ _ _ _ _ (@Zae _ _ 5 _ nd rfl (Or.inl rfl) (Or.inl rfl)) (@Za3 _) (by rfl)) (by rfl)) (by rfl)) (by rfl)) (by rfl) (by rfl)))<*>((Zgl Ja8 (Zai op_ge (pv 1) (Zuv<|>Zac<&&>Zac) (Zan _)) ((Zar (i:=6) nd rfl (Or.inl rfl) ((Zci hpt (Zbu hr))<|>(pv 0)<&&>(pv 1)))<*>((Zjq (i:=0) (j:=1) rfl nd rfl rfl (by decide) rfl rfl ((pv 1)<&>((Zfd<|>(pv 0)<&&>(Zbb<|>(pv 6)<&&>(pv 1)))<&>Zaa)) rfl)<*>(@Zas _ _ _ (Zbm (@Za9 _ _ _ _ _ ((pv 4)<&>((pv 5)<&>((Zfd<|>(pv 2)<&&>(Zbb<|>(pv 6)<&&>(pv 4)))<&>((Zfd<|>(pv 3)<&&>(Zbb<|>(pv 6)<&&>(pv 5)))<&>Zaa))))) (@Zcd _ _ _ _ _ 4 rfl (@Zag _ _ _ _ _ (@Zae _ _ 2 _ nd rfl (Or.inl rfl) (Or.inl rfl)) (@Zag _ _ _ _ _ (@Zae _ _ 3 _ nd rfl (Or.inl rfl) (Or.inl rfl)) (@Zag _ _ _ _ _ (@Zae _ _ 4 _ nd rfl (Or.inl rfl) (Or.inl rfl)) (@Zag _ _ _ _ _ (@Zae _ _ 5 _ nd rfl (Or.inl rfl) (Or.inl rfl)) (@Za3 _) (by rfl)) (by rfl)) (by rfl)) (by rfl)) (by rfl) (by rfl)))))))<*>(~~~(@Za9 _ _ _ _ _ ((pv 2)<&>((pv 3)<&>((pv 4)<&>((pv 5)<&>Zaa)))))))),?_⟩;walk_at "wp";refine ⟨by decide,λp hp=>⟨_,SqT.of Zab,rfl,_,_,rfl,_,_,rfl,_,_,rfl,_,_,rfl,rfl,?_⟩⟩;refine ⟨λn σ H2=>∃ (a b c d x y:Int) (o:Option V),σ = [some (.int x),some (.int y),some (.int a),some (.int b),some (.int c),some (.int d),o]/\Same H H2/\n = y.natAbs/\Steps x0 y0 a b c d x y,
   ⟨_,1,0,0,1,x0,y0,none,rfl,Same.new hp,rfl,⟨by omega,by omega,⟨1,by decide,by decide,by decide,by decide,by decide,by decide⟩,hx64,hy0,hyx,by decide,.inl ⟨rfl,rfl,rfl,rfl⟩⟩⟩,?_⟩
  rintro n σ H2 ⟨a,b,c,d,x,y,o,rfl,s2,rfl,st⟩;walk_at "wp";have e64:(2:Int) ^ Int.toNat 64 = 18446744073709551616:=by decide +kernel
  rw [e64];refine ⟨⟨by decide,by decide,by decide⟩,Zdz (λhc=>?_) (λhc=>?_)⟩
  .have hc:=Ja7 hc;have nx:=st.next hx hyx hc;obtain ⟨c1,c2⟩:=st.cd hx hyx;have hxs:x<=x0 + y0:=by
    rcases st.pr with ⟨rfl,rfl,rfl,rfl⟩ | ⟨_,h⟩
    .have:=st.hx;omega
    .have:=st.yn;omega
   have hyx':=st.yx;have hx0:=st.x64;have q0:0<=x / y:=Jew (Zmr hx0) (Zmr hc);have q1:x / y<=x:=Int.ediv_le_self _ (Zmr hx0);have hr0:=nx.yn;have hr1:x - x / y * y < y:=by
    have h1:=Jbg x (show 0 < y by omega);have h2:=Jek x y;rw [Je8 y] at h2;omega
   refine ⟨_,λ_ _ h=>h,by omega,?_⟩;rw [Zc9 (by omega)];refine ⟨(Znb (oz124 hx hyx hxs q0 q1)).ok (Znb (by omega)) (by decide),_,_,⟨rfl,rfl⟩,(Znb (oz124 hx hyx hxs q0 q1)).ok (Znb (by omega)) (by decide),(Znb (oz124 hx hyx hxs q0 q1)).ok (Znb (by omega)) (by decide),by decide,λp2 hp2=>⟨_,SqT.of Zab,rfl,_,_,rfl,_,_,rfl,_,_,rfl,_,_,rfl,rfl,?_⟩⟩;exact ⟨_,by omega,_,_,_,_,_,_,_,rfl,s2.trans (Same.new hp2),rfl,nx⟩
  .exact ⟨by decide,λt ht=>q a b c d x y t _ (s2.trans (Same.new ht)) Zab st⟩
theorem Zt1 (x:Int) {y:Int} (h:y ≠ 0):(x.fmod y).natAbs < y.natAbs:=by
 rcases Int.lt_or_gt_of_ne h with h | h
 .have e:x.fmod y = -((-x).fmod (-y)):=by rw [Int.neg_fmod_neg,Int.neg_neg]
  have h1:=Jeg (-x) (show 0 < -y by omega);have h2:=Je9 (-x) (show 0 < -y by omega);omega
 .have h1:=Jeg x (show 0 < y by omega);have h2:=Je9 x (show 0 < y by omega);omega
theorem Zlr (a b:Int):Int.gcd b (a.fmod b) = Int.gcd a b:=by
 rw [Int.fmod_def,Int.sub_eq_add_neg,<- Int.mul_neg,Int.gcd_add_mul_left_right,Je5]
abbrev NB1:Nat:=67000002
abbrev NB:Nat:=67000001
theorem Zso {x y S a b c d X Y:Int} (hS:0 < S) (st:Steps (x / S) (y / S) a b c d X Y) (hx:x / S < 85070591730234615865843651857942052864) (hyx:y / S<=x / S) (hb:b ≠ 0) (y0:0<=y) (x0:0<=x):(a * x + b * y).natAbs + (c * x + d * y).natAbs < (x + y).natAbs:=by
 obtain ⟨c1,d1⟩:=st.cd hx hyx;obtain ⟨a1,b1⟩:=st.ab;obtain ⟨_,hs⟩:=st.pr.resolve_left λz=>hb z.2.1;have ex:x = S * (x / S) + x % S:=(Int.mul_ediv_add_emod x S).symm;have ey:y = S * (y / S) + y % S:=(Int.mul_ediv_add_emod y S).symm;have rx0:=Jbr x (show S ≠ 0 by omega);have rx1:=Jbg x hS;have ry0:=Jbr y (show S ≠ 0 by omega);have ry1:=Jbg y hS;have hX:=st.x64;have hY:=st.yn;have e1:a * x + b * y = S * X + (a * (x % S) + b * (y % S)):=by
  rw [<- st.hx]
  grind
 have e2:c * x + d * y = S * Y + (c * (x % S) + d * (y % S)):=by
  rw [<- st.hy]
  grind
 rw [e1,e2];generalize x / S = x' at *;generalize y / S = y' at *;generalize x % S = rx at *;generalize y % S = ry at *;have p1:=Zav (show a.natAbs<=4611686018427387903 by omega) (show rx.natAbs<=S.natAbs by exact oz2 rx0 rx1);have p2:=Zav (show b.natAbs<=4611686018427387903 by omega) (show ry.natAbs<=S.natAbs by exact oz2 ry0 ry1);have p3:=Zav (show c.natAbs<=4611686018427387903 by omega) (show rx.natAbs<=S.natAbs by exact oz2 rx0 rx1);have p4:=Zav (show d.natAbs<=4611686018427387903 by omega) (show ry.natAbs<=S.natAbs by exact oz2 ry0 ry1);have m1:S * (X + Y + 18446744073709551616)<=S * (x' + y'):=Int.mul_le_mul_of_nonneg_left hs (Zld hS);rw [Int.mul_add,Int.mul_add,Int.mul_add] at m1;have m2:0<=S * X:=Jdo (Zld hS) (Zmr hX);have m3:0<=S * Y:=Jdo (Zld hS) hY;have tri:∀ u v z:Int,(u + (v + z)).natAbs<=u.natAbs + (v.natAbs + z.natAbs):=λu v z=>Jat (Int.natAbs_add_le _ _) (Nat.add_le_add_left (Int.natAbs_add_le _ _) _);have t1:=tri (S * X) (a * rx) (b * ry);have t2:=tri (S * Y) (c * rx) (d * ry);have q1:=Jd2 m2;have q2:=Jd2 m3;have q3:=Jd2 (show 0<=S by exact Zld hS);have q4:=Jd2 (show 0<=x + y by exact oz149 y0 x0);clear e1 e2 hs st a1 b1 c1 d1 hx hyx hX hY;generalize (S * X + (a * rx + b * ry)).natAbs = N1 at *;generalize (S * Y + (c * rx + d * ry)).natAbs = N2 at *;generalize (a * rx).natAbs = n1 at *;generalize (b * ry).natAbs = n2 at *;generalize (c * rx).natAbs = n3 at *;generalize (d * ry).natAbs = n4 at *;generalize (S * X).natAbs = n5 at *;generalize (S * Y).natAbs = n6 at *;generalize (x + y).natAbs = n7 at *;generalize S.natAbs = n8 at *;generalize S * X = zX at *;generalize S * Y = zY at *;generalize S * x' = zx at *;generalize S * y' = zy at *;exact oz153 rx0 rx1 ry0 t1 t2 q4 q3 p1 p2 p3 p4 q1 q2 ex ey m1
theorem Zud {x:Int} {n:Nat} (h0:0<=x) (h:Builtin.Int.intBits x = n) (hn:126<=n):18446744073709551616<=x / 2 ^ (n - 126)/\x / 2 ^ (n - 126) < 85070591730234615865843651857942052864:=by
 have hp:(0:Int) < 2 ^ (n - 126):=Int.pow_pos (by decide);have hu:x.natAbs < 2 ^ n:=Jd3.mp (by omega);have hl:¬ x.natAbs < 2 ^ (n - 1):=λz=>by have:=Jd3.mpr z; omega
 constructor
 .refine (Int.le_ediv_iff_mul_le hp).mpr ?_;have e:(18446744073709551616:Int) * 2 ^ (n - 126) = 2 ^ (n - 62):=by
   rw [show (18446744073709551616:Int) = 2 ^ 64 by decide +kernel,<- Int.pow_add];congr 1;exact oz75 hn
  have e2:(2:Int) ^ (n - 62) = ((2 ^ (n - 62):Nat):Int):=by rw [Int.natCast_pow]; rfl
  have e3:(2:Nat) ^ (n - 62)<=2 ^ (n - 1):=Jbh (by decide) oz114;rw [e,e2];omega
 .refine Int.ediv_lt_of_lt_mul hp ?_;have e:(85070591730234615865843651857942052864:Int) * 2 ^ (n - 126) = 2 ^ n:=by
   rw [show (85070591730234615865843651857942052864:Int) = 2 ^ 126 by decide +kernel,<- Int.pow_add];congr 1;omega
  have e2:(2:Int) ^ n = ((2 ^ n:Nat):Int):=by rw [Int.natCast_pow]; rfl
  rw [e,e2];omega
def Zmh:Sp:=λvs H Q _=>∃ x y:Int,vs = [.int x,.int y]/\0<=x/\0<=y/\4000 < Builtin.Int.intBits x/\4000 < Builtin.Int.intBits y/\Bt NB1 x/\Bt NB1 y /\
 ∀ (u v:Int) (t:Addr) (H':Hp),Same H H'->H' t = some (.tup [.int u,.int v])->0<=u->0<=v->u + v < x + y->Int.gcd u v = Int.gcd x y->Q (.ref t) H'
theorem Ztc {f:Addr} {fd:FuncData} (F:Fun K "shortened" "shortened" Zcz f fd) (T:Txt K mg C) (C_leading_steps:Cal P w K mg base "leading_steps" 1 Zpm):FnOk P w K mg base CX0 2 f fd ["one","other"] Zmh:=by
 have nd:=Zg5.nd;refine F.ok Zg5 (λvs H Q E h=>?_) (λcdv A outer s H vs Q E hr h=>?_)
 .obtain ⟨x0,y0,rfl,_⟩:=h;rfl
 .obtain ⟨x,y,rfl,x0,y0,xb,yb,bx,by',q⟩:=h;refine ⟨_,((@Za4 _ _ _ _ _ _ _ _ (Zai Zi3 (pv 0) (pv 1) (Zan _)) (@Zas _ _ _ (Zjq (i:=0) (j:=1) rfl nd rfl rfl (by decide) rfl rfl ((pv 1)<&>((pv 0)<&>Zaa)) rfl)) Zao)<*>((Zar (i:=2) nd rfl (Or.inl rfl) (Zfd<|>(Zp3 Jeh Jdx Jdy Zmx (pv 0))<&&>(Zht rfl T.g_LEADING)))<*>((Zbm (Za5 C_leading_steps hr.m rfl ((Zut<|>(pv 0)<&&>(pv 2))<&>((Zut<|>(pv 1)<&&>(pv 2))<&>Zaa))) (@Zcd _ _ _ _ _ 4 rfl (@Zag _ _ _ _ _ (@Zae _ _ 3 _ nd rfl (Or.inl rfl) (Or.inl rfl)) (@Zag _ _ _ _ _ (@Zae _ _ 4 _ nd rfl (Or.inl rfl) (Or.inl rfl)) (@Zag _ _ _ _ _ (@Zae _ _ 5 _ nd rfl (Or.inl rfl) (Or.inl rfl)) (@Zag _ _ _ _ _ (@Zae _ _ 6 _ nd rfl (Or.inl rfl) (Or.inl rfl)) (@Za3 _) (by rfl)) (by rfl)) (by rfl)) (by rfl)) (by rfl) (by rfl)))<*>((@Za4 _ _ _ _ _ _ _ _ (Zai Zem (pv 4) Zac (Zan _)) (~~~(@Za9 _ _ _ _ _ ((pv 1)<&>((Zp4<|>(pv 0)<&&>(pv 1))<&>Zaa)))) Zao)<*>(~~~(@Za9 _ _ _ _ _ ((Zcj Zd7 rfl T.n_abs Jfk ((Zdf<|>(Zbb<|>(pv 3)<&&>(pv 0))<&&>(Zbb<|>(pv 4)<&&>(pv 1)))<&>Zaa))<&>((Zcj Zd7 rfl T.n_abs Jfk ((Zdf<|>(Zbb<|>(pv 5)<&&>(pv 0))<&&>(Zbb<|>(pv 6)<&&>(pv 1)))<&>Zaa))<&>Zaa)))))))),?_⟩;refine Zfv λX hX=>?_;walk_at "wp";have aft:∀ x y:Int,0<=y->y<=x->4000 < Builtin.Int.intBits x->4000 < Builtin.Int.intBits y->Bt NB1 x->Bt NB1 y->(∀ (u v:Int) (t:Addr) (H':Hp),Same H H'->H' t = some (.tup [.int u,.int v])->0<=u->0<=v->u + v < x + y->Int.gcd u v = Int.gcd x y->Q (.ref t) H')->
    X { nx:=λx H'=>Q V.non H',rt:=Q } [some (.int x),some (.int y),none,none,none,none,none] H:=by
   intro x y y0 yx xb yb bx by' q
   subst hX;walk_at "wp";have x0:0<=x:=by omega
   obtain ⟨b1,b2⟩:=Zud x0 rfl (show 126<=Builtin.Int.intBits x by omega);have en:((Builtin.Int.intBits x:Int) - 126).toNat = Builtin.Int.intBits x - 126:=by exact oz59
   rw [en];have hS:(0:Int) < 2 ^ (Builtin.Int.intBits x - 126):=Int.pow_pos (by decide);generalize (2:Int) ^ (Builtin.Int.intBits x - 126) = S at *;have yn:y ≠ 0:=λz=>by
    subst z;have:Builtin.Int.intBits 0 = 0:=rfl;omega
   have hyx:y / S<=x / S:=Int.ediv_le_ediv hS yx;refine ⟨rfl,by omega,by omega,_,_,rfl,b1,b2,Jew y0 (Zld hS),hyx,λa b c d X' Y' t H1 s1 ht st=>?_⟩;refine ⟨t,rfl,_,SqT.of ht,rfl,_,_,rfl,_,_,rfl,_,_,rfl,_,_,rfl,rfl,rfl,Zdz (λhb=>?_) (λhb=>?_)⟩
   .refine ⟨yn,by decide,λp hp=>?_⟩;have f0:=Jeg x (show 0 < y by omega);have f1:=Je9 x (show 0 < y by omega);exact q _ _ p _ (s1.trans (Same.new hp)) Zab y0 f0 (by omega) (Zlr x y)
   .have hb:b ≠ 0:=λz=>hb (Jbc (by rw [z]));obtain ⟨a1,a2⟩:=st.ab;obtain ⟨c1,c2⟩:=st.cd b2 hyx;have sm:∀ z:Int,z.natAbs < 4611686018427387904->Bt 127 z:=λz hz=>Znb (by omega);have lt:=Zso hS st b2 hyx hb y0 x0;refine ⟨_,rfl,(sm a a1).ok bx (by decide),_,rfl,(sm b a2).ok by' (by decide),_,rfl,(sm c c1).ok bx (by decide),_,rfl,(sm d c2).ok by' (by decide),by decide,λp hp=>?_⟩;have ab:∀ z:Int,(if z < 0 then -z else z) = (z.natAbs:Int):=λz=>by split <;> omega
    rw [ab,ab];refine q _ _ p _ (s1.trans (Same.new hp)) Zab oz18 oz18 (oz16 y0 x0 lt) ?_;obtain ⟨e,he,det,_⟩:=st.sg;have eg:∀ u v:Int,Int.gcd (u.natAbs:Int) (v.natAbs:Int) = Int.gcd u v:=λu v=>by simp [Int.gcd]
    rw [eg,Ztz (by rcases he with rfl | rfl <;> omega)]
  refine Zdz (λhc=>?_) (λhc=>?_)
  .have hc:=Ja7 hc;exact ⟨_,_,⟨rfl,rfl⟩,aft y x x0 (by omega) yb xb by' bx λu v t H' s' ht u0 v0 huv hg=>q u v t H' s' ht u0 v0 (by omega) (by rw [hg,Je5])⟩
  .have hc:¬ x < y:=λz=>hc (Jbc z);exact aft x y y0 (by omega) xb yb bx by' q
theorem Zl3 {x y:Int} (h:x.natAbs<=y.natAbs):Builtin.Int.intBits x<=Builtin.Int.intBits y:=Jd3.mpr (Jbo h (Jd3.mp (Jag _)))
def spNbl:Sp:=λvs H Q _=>∃ x y:Int,vs = [.int x,.int y]/\0<=x/\0<=y/\Bt NB x/\Bt NB y /\
 ∀ (u v:Int) (t:Addr) (H':Hp),Same H H'->H' t = some (.tup [.int u,.int v])->Int.gcd u v = Int.gcd x y->Q (.ref t) H'
theorem ok_nbl {f:Addr} {fd:FuncData} (F:Fun K "not_both_long" "not_both_long" Zbj f fd) (T:Txt K mg C) (C_shortened:Cal P w K mg base "shortened" 2 Zmh):FnOk P w K mg base CX0 3 f fd ["one","other"] spNbl:=by
 have nd:=Zey.nd;refine F.ok Zey (λvs H Q E h=>?_) (λcdv A outer s H vs Q E hr h=>?_)
 .obtain ⟨x0,y0,rfl,_⟩:=h;rfl
 .obtain ⟨x,y,rfl,x0,y0,bx,by',q⟩:=h;refine ⟨_,((Zgl Ja8 (Zai Ze4 (Zp3 Jeh Jdx Jdy Zmx (Zcj (Ziu rfl) rfl T.n_min boot_min ((pv 0)<&>((pv 1)<&>Zaa)))) (Zht rfl T.g_LONG) (Zan _)) (@Zas _ _ _ (Zbm (Za5 C_shortened hr.m rfl ((pv 0)<&>((pv 1)<&>Zaa))) (@Zcd _ _ _ _ _ 2 rfl (@Zag _ _ _ _ _ (@Zae _ _ 0 _ nd rfl (Or.inl rfl) (Or.inl rfl)) (@Zag _ _ _ _ _ (@Zae _ _ 1 _ nd rfl (Or.inl rfl) (Or.inl rfl)) (@Za3 _) (by rfl)) (by rfl)) (by rfl) (by rfl)))))<*>(~~~(@Za9 _ _ _ _ _ ((pv 0)<&>((pv 1)<&>Zaa))))),?_⟩;walk_at "wp";refine ⟨λn σ H2=>∃ u v:Int,σ = [some (.int u),some (.int v)]/\Same H H2/\n = (u + v).toNat/\0<=u/\0<=v/\u + v<=x + y/\Int.gcd u v = Int.gcd x y,⟨_,x,y,rfl,Same.refl _,rfl,x0,y0,Int.le_refl _,rfl⟩,?_⟩;rintro n σ H2 ⟨u,v,rfl,s2,rfl,u0,v0,huv,hg⟩;walk_at "wp";have hb:∀ z:Int,0<=z->z<=x + y->Bt NB1 z:=λz z0 z1=>(Bt.add bx by').abs_le (by omega);refine ⟨_,_,⟨rfl,rfl⟩,rfl,Zdz (λhc=>?_) (λhc=>?_)⟩
  .have hc:=Ja7 hc;have bu:4000 < Builtin.Int.intBits u:=by
    by_cases h:v < u
    .rw [if_pos h] at hc;exact Ja0 (by omega) (Zl3 (show v.natAbs<=u.natAbs by exact oz2 v0 h))
    .rw [if_neg h] at hc;omega
   have bv:4000 < Builtin.Int.intBits v:=by
    by_cases h:v < u
    .rw [if_pos h] at hc;omega
    .rw [if_neg h] at hc;exact Ja0 (by omega) (Zl3 (show u.natAbs<=v.natAbs by omega))
   refine ⟨_,λ_ _ h=>h,u,v,rfl,u0,v0,bu,bv,hb u u0 (by omega),hb v v0 (by omega),λu' v' t H3 s3 ht u0' v0' lt hg'=>⟨t,rfl,_,SqT.of ht,rfl,_,_,rfl,_,_,rfl,rfl,(u' + v').toNat,oz136 u0' v0' lt,u',v',rfl,s2.trans s3,rfl,u0',v0',by omega,hg'.trans hg⟩⟩
  .exact ⟨by decide,λt ht=>q u v t _ (s2.trans (Same.new ht)) Zab hg⟩
def Zoj:Sp:=λvs H Q _=>∃ a b:Int,vs = [.int a,.int b]/\Bt NB a/\Bt NB b/\∀ H',Same H H'->Q (.int (Int.gcd a b:Int)) H'
theorem ok_cdB {f:Addr} {fd:FuncData} (F:Fun K "common_divisor" "common_divisor" Zbh f fd) (T:Txt K mg C) (C_not_both_long:Cal P w K mg base "not_both_long" 3 spNbl):FnOk P w K mg base CX0 4 f fd ["one","other"] Zoj:=by
 have nd:=Zeb.nd;refine F.ok Zeb (λvs H Q E h=>?_) (λcdv A outer s H vs Q E hr h=>?_)
 .obtain ⟨a,b,rfl,_⟩:=h;rfl
 .obtain ⟨a,b,rfl,ha,hb,q⟩:=h;refine ⟨_,((@Za4 _ _ _ _ _ _ _ _ (Zai Ze4 (Zp3 Jeh Jdx Jdy Zmx (pv 0)) (Zht rfl T.g_LONG) (Zan _)) (@Zas _ _ _ (Zbm (Za5 C_not_both_long hr.m rfl ((Zcj Zd7 rfl T.n_abs Jfk ((pv 0)<&>Zaa))<&>((Zcj Zd7 rfl T.n_abs Jfk ((pv 1)<&>Zaa))<&>Zaa))) (@Zcd _ _ _ _ _ 2 rfl (@Zag _ _ _ _ _ (@Zae _ _ 0 _ nd rfl (Or.inl rfl) (Or.inl rfl)) (@Zag _ _ _ _ _ (@Zae _ _ 1 _ nd rfl (Or.inl rfl) (Or.inl rfl)) (@Za3 _) (by rfl)) (by rfl)) (by rfl) (by rfl)))) Zao)<*>((Zgl Ja8 (Zai Zgn (pv 1) Zac (Zan _)) (@Zas _ _ _ (Zjq (i:=0) (j:=1) rfl nd rfl rfl (by decide) rfl rfl ((pv 1)<&>((Zp4<|>(pv 0)<&&>(pv 1))<&>Zaa)) rfl)))<*>(~~~(Zcj Zd7 rfl T.n_abs Jfk ((pv 0)<&>Zaa))))),?_⟩;refine Zfv λX hX=>?_;walk_at "wp";have aft:∀ (x y:Int) (H1:Hp),Same H H1->Int.gcd x y = Int.gcd a b->X { nx:=λx H'=>Q V.non H',rt:=Q } [some (.int x),some (.int y)] H1:=by
   intro x y H1 s1 hg;subst hX;walk_at "wp";refine ⟨λn σ H2=>∃ x y:Int,σ = [some (.int x),some (.int y)]/\H2 = H1/\n = y.natAbs/\Int.gcd x y = Int.gcd a b,⟨_,x,y,rfl,rfl,rfl,hg⟩,?_⟩;rintro n σ H2 ⟨x,y,rfl,rfl,rfl,hg⟩;walk_at "wp";refine Zdz (λhc=>?_) (λhc=>?_)
   .have hy0:¬ y = 0:=by simpa using hc
    exact ⟨_,λ_ _ h=>h,hy0,_,_,⟨rfl,rfl⟩,(x.fmod y).natAbs,Zt1 x hy0,y,x.fmod y,rfl,rfl,rfl,by rw [Zlr]; exact hg⟩
   .have hy0:y = 0:=by simpa using hc
    subst hy0;have e:(if x < 0 then -x else x) = (Int.gcd a b:Int):=by
     rw [<- hg,Int.gcd_zero];split <;> omega
    rw [e];exact q _ s1
  have ab:∀ z:Int,(if z < 0 then -z else z) = (z.natAbs:Int):=λz=>by split <;> omega
  refine ⟨rfl,Zdz (λhc=>?_) (λhc=>aft a b H (Same.refl _) rfl)⟩;rw [ab,ab];exact ⟨_,_,rfl,oz74,oz74,ha.abs_le (by simp),hb.abs_le (by simp),λu v t H1 s1 ht hg=>⟨t,rfl,_,SqT.of ht,rfl,_,_,rfl,_,_,rfl,rfl,aft u v H1 s1 (by rw [hg]; simp [Int.gcd])⟩⟩
end
end Pf
namespace Pf
open PySem L2 L3 PyProof.Rows
section
variable {P:Program} {w:World} {K:PySem.W.Frag} {mg:Str->Option Value} {base:Heap} {C:Addr}
def nrS (a b:Int):Int × Int:=if b < 0 then nrm (-a) (-b) else nrm a b
theorem nrS_eq {a b:Int} (h:b ≠ 0):((a.fdiv (if b < 0 then -(Int.gcd a b:Int) else (Int.gcd a b:Int)),b.fdiv (if b < 0 then -(Int.gcd a b:Int) else (Int.gcd a b:Int))):Int × Int) = nrS a b:=by
 unfold nrS nrm;by_cases hb:b < 0
 .simp only [if_pos hb];have e1:∀ z g:Int,z.fdiv (-g) = (-z).fdiv g:=λz g=>by rw [<- Int.neg_fdiv_neg (-z) g,Int.neg_neg]
  have e2:Int.gcd (-a) (-b) = Int.gcd a b:=by rw [Int.gcd_neg,Int.neg_gcd]
  rw [e1,e1,e2,Jb2 _ Ze3,Jb2 _ Ze3]
 .simp only [if_neg hb];rw [Jb2 _ Ze3,Jb2 _ Ze3]
def Zml:Sp:=λvs H Q _=>∃ a b:Int,vs = [.int a,.int b]/\Bt NB a/\Bt NB b/\b ≠ 0/\∀ t H',Same H H'->H' t = some (.tup [.int (nrS a b).1,.int (nrS a b).2])->Q (.ref t) H'
theorem Ztg {f:Addr} {fd:FuncData} (F:Fun K "fraction" "fraction" Zdt f fd) (T:Txt K mg C) (hpt:P.given.tree = none) (C_common_divisor:Cal P w K mg base "common_divisor" 4 Zoj):FnOk P w K mg base CX0 5 f fd ["top","bottom"] Zml:=by
 have nd:=Zih.nd;refine F.ok Zih (λvs H Q E h=>?_) (λcdv A outer s H vs Q E hr h=>?_)
 .obtain ⟨a,b,rfl,_⟩:=h;rfl
 .obtain ⟨a,b,rfl,ha,hb,b0,q⟩:=h;refine ⟨_,((@Za4 _ _ _ _ _ _ _ _ (Zai Zem (pv 1) Zac (Zan _)) (@Zas _ _ _ Zfr) Zao)<*>((Zar (i:=2) nd rfl (Or.inl rfl) (Za5 C_common_divisor hr.m rfl ((pv 0)<&>((pv 1)<&>Zaa))))<*>((@Za4 _ _ _ _ _ _ _ _ (Zai Zi3 (pv 1) Zac (Zan _)) (@Zas _ _ _ (Zar (i:=2) nd rfl (Or.inl rfl) (Zi2 Zfz (pv 2)))) Zao)<*>(~~~(@Za9 _ _ _ _ _ (((Zci hpt (Zbu hr))<|>(pv 0)<&&>(pv 2))<&>(((Zci hpt (Zbu hr))<|>(pv 1)<&&>(pv 2))<&>Zaa))))))),?_⟩;walk_at "wp";have Zfy:∀ {c A B:Prop} [Decidable c],¬ c->B->if c then A else B:=λhc h=>by rw [if_neg hc]; exact h
  refine Zfy (by rw [Jb4 b0]; decide) ⟨a,b,rfl,ha,hb,λH1 s1=>?_⟩;have g0:0 < Int.gcd a b:=Jdv _ b0;have e:=nrS_eq (a:=a) b0;refine Zdz (λhc=>?_) (λhc=>?_)
  .have hc:=Ja7 hc;rw [if_pos hc] at e;refine ⟨_,rfl,by omega,by omega,by decide,λt ht=>q t _ (s1.trans (Same.new ht)) ?_⟩;rw [Zab,<- e]
  .have hc:¬ b < 0:=λz=>hc (Jbc z);rw [if_neg hc] at e;refine ⟨_,rfl,by omega,_,rfl,by omega,by decide,λt ht=>q t _ (s1.trans (Same.new ht)) ?_⟩;rw [Zab,<- e]
theorem Zpu {b p:Int} (hp:Zfi p) (h0:0 < b) (h1:b < p):Int.gcd b p = 1:=by
 have hd1:((Int.gcd b p:Nat):Int) ∣ b:=Jbv b p;have hd2:((Int.gcd b p:Nat):Int) ∣ p:=Jb0 b p;have hle:=Int.le_of_dvd h0 hd1;have hpos:0 < Int.gcd b p:=Int.gcd_pos_of_ne_zero_left _ (by omega);by_cases h:Int.gcd b p = 1
 .exact h
 .exact absurd (Int.emod_eq_zero_of_dvd hd2) (hp.2.2 _ (by omega) (by omega))
theorem inv_end {p z b c:Int} (h:p ∣ z * b - c):(z % p * b) % p = c % p:=by
 obtain ⟨k,hk⟩:=h;have e:z % p * b = c + p * (k - z / p * b):=by rw [Int.emod_def]; grind
 rw [e,Int.add_mul_emod_self_left]
theorem Zns {a b:Int} (ha:1<=a) (hb:0<=b):b<=a * b:=by
 have:=Jdj ha hb;exact oz142 this
theorem Zrx {x:Int} (h:x.natAbs<=97):Bt 7 x:=Jbo h (by decide)
def spInv:Sp:=λvs H Q _=>∃ b p:Int,vs = [.int b,.int p]/\Zfi p/\0 < b/\b < p/\∀ r H',Same H H'->0<=r->r < p->(r * b) % p = 1->Q (.int r) H'
theorem ok_inv {f:Addr} {fd:FuncData} (F:Fun K "inverse" "inverse" Zej f fd) (T:Txt K mg C):FnOk P w K mg base CX0 1 f fd ["rest","prime"] spInv:=by
 have nd:=Zjm.nd;refine F.ok Zjm (λvs H Q E h=>?_) (λcdv A outer s H vs Q E hr h=>?_)
 .obtain ⟨b,p,rfl,_⟩:=h;rfl
 .obtain ⟨b,p,rfl,hp,b0,b1,q⟩:=h;have p1:=hp.1;have p97:=hp.2.1;refine ⟨_,((Zjq (i:=2) (j:=3) rfl nd rfl rfl (by decide) rfl rfl ((pv 0)<&>((pv 1)<&>Zaa)) rfl)<*>((Zbm (@Za9 _ _ _ _ _ (Zac<&>(Zac<&>Zaa))) (@Zcd _ _ _ _ _ 2 rfl (@Zag _ _ _ _ _ (@Zae _ _ 4 _ nd rfl (Or.inl rfl) (Or.inl rfl)) (@Zag _ _ _ _ _ (@Zae _ _ 5 _ nd rfl (Or.inl rfl) (Or.inl rfl)) (@Za3 _) (by rfl)) (by rfl)) (by rfl) (by rfl)))<*>((Zgl Ja8 (Zai Ze4 (pv 2) Zac (Zan _)) ((Zar (i:=6) nd rfl (Or.inl rfl) (Zj7<|>(pv 3)<&&>(pv 2)))<*>((Zjq (i:=2) (j:=3) rfl nd rfl rfl (by decide) rfl rfl ((Zfd<|>(pv 3)<&&>(Zbb<|>(pv 6)<&&>(pv 2)))<&>((pv 2)<&>Zaa)) rfl)<*>(@Zas _ _ _ (Zjq (i:=4) (j:=5) rfl nd rfl rfl (by decide) rfl rfl ((Zfd<|>(pv 5)<&&>(Zbb<|>(pv 6)<&&>(pv 4)))<&>((pv 4)<&>Zaa)) rfl)))))<*>(~~~(Zct<|>(pv 4)<&&>(pv 1)))))),?_⟩;walk_at "wp";refine ⟨_,_,⟨rfl,rfl⟩,by decide,λt ht=>⟨_,SqT.of Zab,rfl,_,_,rfl,_,_,rfl,rfl,?_⟩⟩;refine ⟨λn σ H2=>∃ (lo hi lt ht':Int) (o:Option V),σ = [some (V.int b),some (V.int p),some (V.int lo),some (V.int hi),some (V.int lt),some (V.int ht'),o]/\H2 = upd H t (.tup [V.int 1,V.int 0])/\n = lo.toNat/\1<=lo/\lo < hi/\hi<=p/\Int.gcd lo hi = 1/\p ∣ lt * b - lo/\p ∣ ht' * b - hi /\
    ∃ u v:Int,0<=u/\0<=v/\lo * v + hi * u = p/\((lt = u/\ht' = -v)\/(lt = -u/\ht' = v)),
   ⟨_,b,p,1,0,none,rfl,rfl,rfl,by omega,b1,Int.le_refl _,Zpu hp b0 b1,⟨0,by omega⟩,⟨-1,by omega⟩,1,0,by decide,by decide,by omega,.inl ⟨rfl,rfl⟩⟩,?_⟩
  rintro n σ H2 ⟨lo,hi,lt,ht',o,rfl,rfl,rfl,l1,l2,l3,hg,d1,d2,u,v,u0,v0,huv,hs⟩;walk_at "wp";refine Zdz (λhc=>?_) (λhc=>?_)
  .have hc:=Ja7 hc;have hm:hi - hi / lo * lo = hi % lo:=by rw [Int.emod_def,Je8 lo]
   have m0:0<=hi / lo:=Jew (oz143 l2 hc) (by omega);have m1:hi / lo<=hi:=Int.ediv_le_self _ (oz143 l2 hc);have r0:=Jbr hi (show lo ≠ 0 by exact Zj6 hc);have r1:=Jbg hi (show 0 < lo by exact Zgy hc);have hg':Int.gcd (hi % lo) lo = 1:=by rw [Je5,Znz,Je5]; exact hg
   have r2:1<=hi % lo:=by
    by_cases z:hi % lo = 0
    .rw [z,Int.zero_gcd] at hg';omega
    .omega
   have u1:=Zns (a:=hi) (by omega) u0;have v1:=Zns (a:=lo) (by omega) v0;have um:u<=97:=by omega
   have vm:v<=97:=by omega
   have e3:(hi - hi / lo * lo) * u + lo * (v + hi / lo * u) = p:=by rw [<- huv]; grind
   have mu:0<=hi / lo * u:=Jdo m0 u0;refine ⟨_,λ_ _ h=>h,⟨Zgy hc,oz90 p97 l2 l3⟩,(Zrx (oz29 p97 l3 m0 m1)).ok (Zrx (oz80 p97 l2 l3 hc)) (by decide),_,_,⟨rfl,rfl⟩,(Zrx (oz29 p97 l3 m0 m1)).ok (Zrx (by rcases hs with ⟨h,_⟩ | ⟨h,_⟩ <;> omega)) (by decide),_,_,⟨rfl,rfl⟩,(hi % lo).toNat,by omega,
    hi - hi / lo * lo,lo,ht' - hi / lo * lt,lt,_,rfl,rfl,by rw [hm],by rw [hm]; exact r2,by rw [hm]; exact r1,oz52 l2 l3,by rw [hm]; exact hg',?_,d1,v + hi / lo * u,by omega,u,u0,e3,?_⟩
   .have e:(ht' - hi / lo * lt) * b - (hi - hi / lo * lo) = (ht' * b - hi) - hi / lo * (lt * b - lo):=by grind
    rw [e];exact Int.dvd_sub d2 (Int.dvd_mul_of_dvd_right d1)
   .rcases hs with ⟨h1,h2⟩ | ⟨h1,h2⟩
    .subst h1 h2;exact .inr ⟨by grind,rfl⟩
    .subst h1 h2;exact .inl ⟨by grind,rfl⟩
  .have hc:¬ 1 < lo:=λz=>hc (Jbc z);have hl:lo = 1:=by omega
   subst hl;refine ⟨Zgy p1,q _ _ (Same.new ht) (Jbr _ (Zj6 p1)) (Jbg _ (Zgy p1)) ?_⟩;rw [inv_end d1,Jcs (by decide) p1]
def Zmi:Sp:=λvs H Q E=>∃ a b p:Int,vs = [.int a,.int b,.int p]/\Zfi p/\Bt NB a/\b % p ≠ 0/\∀ r H',Same H H'->0<=r->r < p->(r * b - a) % p = 0->Q (.int r) H'
theorem Ztd {f:Addr} {fd:FuncData} (F:Fun K "rest_of" "rest_of" Zec f fd) (T:Txt K mg C) (C_inverse:Cal P w K mg base "inverse" 1 spInv):FnOk P w K mg base CX0 2 f fd ["top","bottom","prime"] Zmi:=by
 have nd:=Zjf.nd;refine F.ok Zjf (λvs H Q E h=>?_) (λcdv A outer s H vs Q E hr h=>?_)
 .obtain ⟨a,b,p,rfl,_⟩:=h;rfl
 .obtain ⟨a,b,p,rfl,hp,ha,hb,q⟩:=h;have p1:=hp.1;have p97:=hp.2.1;have b0:=Jbr b (show p ≠ 0 by exact Zj6 p1);have b1:=Jbg b (show 0 < p by exact Zgy p1);refine ⟨_,((Zar (i:=3) nd rfl (Or.inl rfl) (Zct<|>(pv 1)<&&>(pv 2)))<*>((@Za4 _ _ _ _ _ _ _ _ (Zai Zem (pv 3) Zac (Zan _)) (@Zas _ _ _ Zfr) Zao)<*>(~~~(Zct<|>(Zbb<|>(pv 0)<&&>(Za5 C_inverse hr.m rfl ((pv 3)<&>((pv 2)<&>Zaa))))<&&>(pv 2))))),?_⟩;walk_at "wp";have Zfy:∀ {c A B:Prop} [Decidable c],¬ c->B->if c then A else B:=λhc h=>by rw [if_neg hc]; exact h
  refine ⟨Zgy p1,Zfy (by rw [Jb4 hb]; decide) ?_⟩;refine ⟨_,p,rfl,hp,by omega,b1,λr H' s' r0 r1 hr1=>⟨r,rfl,ha.ok (Zrx (by omega)) (by decide),Zgy p1,q _ H' s' (Jbr _ (Zj6 p1)) (Jbg _ (Zgy p1)) ?_⟩⟩;have k1:p ∣ r * (b % p) - 1:=Int.dvd_of_emod_eq_zero (by rw [Int.sub_emod,hr1,Jcs (by decide) p1]; rfl);obtain ⟨k,hk⟩:=k1;have e:(a * r % p) * b - a = p * (a * k + a * r * (b / p) - a * r / p * b):=by
   rw [Int.emod_def] at hk ⊢
   grind
  rw [e,Int.mul_emod_right]
structure IsQ (p a b:Int) (x:Int × Int):Prop where
 is:Isn p x
 fd:∀ (F:Type) [Lean.Grind.Field F],FdOk p F->(nm x:F) = ic a / ic b
 bt:∀ n:Nat,7<=n->Bt n a->Bt n b->Bt n x.1/\Bt n x.2
theorem Znv {a b:Int} (b0:b ≠ 0):IsQ 0 a b (nrS a b):=by
 have key:∀ a b:Int,0 < b->IsQ 0 a b (nrm a b):=λa b h=>by
  refine ⟨.inl ⟨rfl,?_⟩,λF _ hF=>hF.nrmF rfl h,λn _ ha hb=>?_⟩
  .exact Zqh h
  .have g0:=Zdi (a:=a) h;exact ⟨ha.quo (Jbv ..),hb.quo (Jb0 ..)⟩
 unfold nrS;by_cases h:b < 0
 .rw [if_pos h];obtain ⟨h1,h2,h3⟩:=key (-a) (-b) (by omega);refine ⟨h1,λF _ hF=>?_,λn h7 ha hb=>h3 n h7 ha.neg hb.neg⟩;rw [h2 F hF,Zrb,Zrb];have:(ic b:F) ≠ 0:=hF.ne0 (.inl rfl) b0
  grind
 .rw [if_neg h];exact key a b (by omega)
theorem Zq6 {p a b r:Int} (hp:Zfi p) (hb:b % p ≠ 0) (r0:0<=r) (r1:r < p) (h:(r * b - a) % p = 0):IsQ p a b (r,1):=by
 have p1:=hp.1;have p97:=hp.2.1;refine ⟨.inr ⟨Zgy p1,r0,r1,rfl⟩,λF _ hF=>?_,λn h7 _ _=>⟨Zaz h7 (by show r.natAbs < 128; omega),Zaz h7 (by show (1:Int).natAbs < 128; decide)⟩⟩;have e1:(ic b:F) ≠ 0:=by
  rw [<- hF.modF (Zj6 p1)];exact hF.ne0 (.inr ⟨Jbr _ (Zj6 p1),Jbg _ (Zgy p1)⟩) hb
 have e2:(ic (r * b - a):F) = 0:=by rw [<- hF.modF (Zj6 p1),h,Zev]
 rw [Zra,Zcf] at e2;rw [hF.one]
 grind
def Zg2 (C:Addr):Sp:=λvs H Q _=>∃ (g:Addr) (p a b:Int),vs = [.ref g,.int a,.int b]/\GAt C H g p/\GroundP p/\Bt NB a/\Bt NB b/\(p = 0->b ≠ 0)/\(p ≠ 0->b % p ≠ 0)/\∀ v x H',Same H H'->NumV H' p v x->IsQ p a b x->Q v H'
theorem Zp6 {f D:Addr} {fd:FuncData} (F:FunD K "number" "Ground.number" Zax f fd D) (T:Txt K mg C) (C_fraction:Cal P w K mg base "fraction" 5 Zml) (C_rest_of:Cal P w K mg base "rest_of" 2 Zmi):FnOk P w K mg base CX0 6 f fd ["self","top","bottom"] (Zg2 C):=by
 have nd:=Ze1.nd;refine F.ok Ze1 (λvs H Q E h=>?_) (λcdv A outer s H vs Q E hr h=>?_)
 .obtain ⟨g,p,a,b,rfl,_⟩:=h;rfl
 .obtain ⟨g,p,a,b,rfl,⟨dx,hg⟩,hp,ha,hb,h0,h1,q⟩:=h;refine ⟨_,((@Za4 _ _ _ _ _ _ _ _ (Zai Zem (Zlb (pv 0) rfl) Zac (Zan _)) (~~~(Za5 C_fraction hr.m rfl ((pv 1)<&>((pv 2)<&>Zaa)))) Zao)<*>(~~~(Za5 C_rest_of hr.m rfl ((pv 1)<&>((pv 2)<&>((Zlb (pv 0) rfl)<&>Zaa)))))),?_⟩;walk_at "wp";refine ⟨C,dx,_,hg,T.cl_Ground,T.nP,_,Zep p,rfl,Zdz (λhc=>?_) (λhc=>?_)⟩
  .have hp0:p = 0:=by simpa using hc
   subst hp0;exact ⟨a,b,rfl,ha,hb,h0 rfl,λt H' s' ht=>q _ _ _ s' (NumV.tup rfl ht) (Znv (h0 rfl))⟩
  .have hp0:¬ p = 0:=by simpa using hc
   have hp1:Zfi p:=hp.resolve_left hp0;exact ⟨C,dx,_,hg,T.cl_Ground,T.nP,_,Zep p,a,b,p,rfl,hp1,ha,h1 hp0,λr H' s' r0 r1 hr=>q _ (r,1) H' s' (NumV.of (x:=(r,1)) hp0) (Zq6 hp1 (h1 hp0) r0 r1 hr)⟩
def spCmB:Sp:=λvs H Q _=>∃ a b:Int,vs = [.int a,.int b]/\0 < a/\0 < b/\Bt NB a/\Bt NB b/\∀ m H',Same H H'->0 < m->a ∣ m->b ∣ m->m<=a * b->Q (.int m) H'
theorem ok_cmB {f:Addr} {fd:FuncData} (F:Fun K "common_multiple" "common_multiple" Zbf f fd) (T:Txt K mg C) (hpt:P.given.tree = none) (C_common_divisor:Cal P w K mg base "common_divisor" 4 Zoj):FnOk P w K mg base CX0 5 f fd ["one","other"] spCmB:=by
 have nd:=Zd1.nd;refine F.ok Zd1 (λvs H Q E h=>?_) (λcdv A outer s H vs Q E hr h=>?_)
 .obtain ⟨a,b,rfl,_⟩:=h;rfl
 .obtain ⟨a,b,rfl,ha,hb,ta,tb,q⟩:=h;refine ⟨_,(~~~(Zbb<|>((Zci hpt (Zbu hr))<|>(pv 0)<&&>(Za5 C_common_divisor hr.m rfl ((pv 0)<&>((pv 1)<&>Zaa))))<&&>(pv 1))),?_⟩;walk_at "wp";have g0:=Zdi (a:=a) hb;have e1:a / (Int.gcd a b:Int) * (Int.gcd a b:Int) = a:=Jck (Jbv ..);obtain ⟨k,hk⟩:(Int.gcd a b:Int) ∣ b:=Jb0 ..;have dpos:0 < a / (Int.gcd a b:Int):=by
   rcases Jfc 0 (a / (Int.gcd a b:Int)) with h | h | h
   .exact h
   .rw [<- h,Int.zero_mul] at e1; omega
   .have:=Int.mul_neg_of_neg_of_pos h g0; omega
  have bd:Bt NB (a / (Int.gcd a b:Int)):=ta.quo (Jbv ..);have dle:(a / (Int.gcd a b:Int)).natAbs<=a.natAbs:=Zc7 a g0 (Jbv ..);refine ⟨a,b,rfl,ta,tb,λH' s'=>⟨_,rfl,by omega,?_⟩⟩;rw [Zc9 g0];refine ⟨bd.ok tb (by decide),q _ _ s' (Jc2 dpos hb) ⟨k,?_⟩ ⟨_,Je8 ..⟩ (Jdj (by omega) (Zld hb))⟩;generalize (Int.gcd a b:Int) = g at *;generalize a / g = d at *;rw [hk,<- e1,Int.mul_assoc]
abbrev HB:Nat:=33500000
def RowZ (H:Hp) (a:Addr) (zs:List Int):Prop:=H a = some (.lst (zs.map V.int))
theorem RowZ.same {H H':Hp} {a:Addr} {zs:List Int} (h:RowZ H a zs) (s:Same H H'):RowZ H' a zs:=s _ _ h
theorem RowZ.put {H:Hp} {D:Addr} {o:HO} {a:Addr} {zs:List Int} (h:RowZ H a zs) (n:a ≠ D):RowZ (upd H D o) a zs:=by unfold RowZ; rw [Zal n]; exact h
theorem Zfh {a b D:Addr} {xs ys:List V} {fr:List (Str × Nat)} {σ:L2.St} {te:TE} {H1:Hp} {Q:VK} (R:Nat->Hp->V->Prop) (hS:∀ {i H H' y},R i H y->Same H H'->R i H' y) (hP:∀ {i H y l o},R i H y->H D = some (.lst l)->R i (upd H D o) y)
  (ha:H1 a = some (.lst xs)) (hb:H1 b = some (.lst ys)) (hlen:ys.length = xs.length) (hD:H1 D = none) (hn:xs.length<=1000)
  (h:∀ (i:Nat) x y H (Q:VK),xs[i]? = some x->ys[i]? = some y->Same H1 H->(∃ l,H D = some (.lst l))->(∀ u H',Same H H'->R i H' u->Q u H')->te (some x :: some y :: Zbp fr σ) H Q)
  (hQ:∀ zs H',Same H1 H'->H' D = some (.lst zs)->zs.length = xs.length->(∀ (i:Nat) y,zs[i]? = some y->R i H' y)->Q (.ref D) H'):Zcg (gTup K 2 (Zls (Zb4 0) (Zls (Zb4 1) gNil))) Zhq te (Itz K a b) D (Zgr 2 fr σ) H1 Q:=by
 refine Zn2 (xs:=xs) (ys:=ys) (λi vs H=>Same H1 H/\H D = some (.lst vs)/\vs.length = i/\∀ (j:Nat) y,vs[j]? = some y->R j H y) hlen ⟨Same.new hD,Zab,rfl,λj y e=>by simp at e⟩ (λi vs H _ p=>⟨SqL.of (p.1 _ _ ha),SqL.of (p.1 _ _ hb)⟩) ?_ (λvs H ⟨s,e,hl,hr⟩=>hQ vs H s e hl hr);rintro i x y p vs σ' H hi hx hy hp sh ⟨s,e,hl,hr⟩;obtain ⟨z1,z2,rfl⟩:=sh.two;have s0:=Same.new (o:=.tup [x,y]) hp;refine ⟨p,_,rfl,SqT.of Zab,rfl,_,_,rfl,_,_,rfl,rfl,?_⟩;simp only [Zhq,Jbi,Jce,Jdf];refine h i x y _ _ hx hy (s.trans s0) ⟨_,s0 _ _ e⟩ λu H' s' ru=>?_;have s1:=s0.trans s';refine Zo0 (ws:=vs ++ [u]) hi Sh.mk2 (s1 _ _ e) (Zau (Zmq hn hi hl)) ⟨(s.trans s1).upd hD,Zab,by rw [Jam,hl]; rfl,λj v hv=>?_⟩;by_cases hj:j < vs.length
 .rw [Jbd hj] at hv;exact hP (hS (hr j v hv) s1) (s1 _ _ e)
 .rw [Jbb (Zhf hj)] at hv;have hj0:j - vs.length = 0:=by
   by_cases z:j - vs.length = 0
   .exact z
   .rw [Jaj (by simp; exact oz95 z)] at hv; cases hv
  rw [hj0] at hv;cases hv;rw [show j = i by exact oz79 hl hj hj0];exact hP ru (s1 _ _ e)
theorem Zst {H:Hp} {p:Int} {vs:List V} {xs:List Nv} (hp:p ≠ 0) (h:All2 (NumV H p) vs xs):vs = (xs.map λx=>x.1).map V.int:=by
 apply Jcm;intro i;have hl:=h.1;by_cases hi:i < vs.length
 .have e2:xs[i]? = some (xs[i]'(by omega)):=Jaa _;have:=(h.2 i _ _ (Jaa hi) e2).int hp;rw [Jaa hi,this,Jad,Jad,e2];rfl
 .rw [Jaj (Zhf hi),Jaj (by simp; omega)]
structure WRz (p:Int) (xs:List Nv) (zs:List Int) (b:Int):Prop where
 len:zs.length = xs.length
 pos:0 < b
 one:p ≠ 0->b = 1
 eq:∀ i,zs.getD i 0 * (xs.getD i (0,1)).2 = (xs.getD i (0,1)).1 * b
def Zbc (p:Int) (k:Nat) (xs:List Nv):Prop:=∀ x ∈ xs,Isn p x/\Bt k x.1/\Bt k x.2
def Zsj (C:Addr):Sp:=λvs H Q _=>∃ (g a:Addr) (p:Int) (xs:List Nv) (k:Nat),vs = [.ref g,.ref a]/\GAt C H g p/\GroundP p/\RowV H p a xs/\xs.length<=900/\Zbc p k xs/\1<=k/\(xs.length + 1) * k<=NB /\
 ∀ (t l:Addr) (zs:List Int) (b:Int) H',Same H H'->H l = none->H' t = some (.tup [.ref l,.int b])->RowZ H' l zs->WRz p xs zs b->SmallR ((xs.length + 1) * k) zs->Bt ((xs.length + 1) * k) b->Q (.ref t) H'
theorem ok_wrZ {f:Addr} {fd:FuncData} (F:Fun K "whole_row" "whole_row" Zcy f fd) (T:Txt K mg C) (hpt:P.given.tree = none) (C_common_multiple:Cal P w K mg base "common_multiple" 5 spCmB):FnOk P w K mg base CX0 6 f fd ["ground","row"] (Zsj C):=by
 have nd:=Zg4.nd;refine F.ok Zg4 (λvs H Q E h=>?_) (λcdv A outer s H vs Q E hr h=>?_)
 .obtain ⟨g,a,p,xs,k,rfl,_⟩:=h;rfl
 .obtain ⟨g,a,p,xs,k,rfl,⟨dx,hg⟩,hp,⟨vs,hv,al⟩,xl,gd,k1,kb,q⟩:=h;have vl:=al.1;refine ⟨_,((@Za4 _ _ _ _ _ _ _ _ (Zai Zgn (Zlb (pv 0) rfl) Zac (Zan _)) (~~~(@Za9 _ _ _ _ _ ((Zp2 Zhh rfl T.n_list boot_list ((pv 1)<&>Zaa))<&>(Zac<&>Zaa)))) Zao)<*>((Zar (i:=2) nd rfl (Or.inr rfl) Zac)<*>((Zco Ja8 rfl (Zbd (pv 1)) (@Zae _ _ 3 _ nd rfl (Or.inl rfl) (Or.inl rfl)) (@Zas _ _ _ (Zar (i:=2) nd rfl (Or.inr rfl) (Za5 C_common_multiple hr.m rfl ((pv 2)<&>((Zaq<|>(pv 3)<||>Zac)<&>Zaa))))))<*>(~~~(@Za9 _ _ _ _ _ ((Za6 (own:=["number"]) (fr:=[("bottom",2)]) rfl (Zb0 (by kernel_rfl)) (Zbd (pv 1)) (λ_ _ _ _=>⟨(@Zae _ _ 0 _ (show (["number","bottom"]:List Str).Nodup by decide +kernel) rfl (Or.inl rfl) (Or.inr rfl)),Za1,(Zbb<|>((Zka K rfl)<|>(pv 0)<||>Zac)<&&>((Zci hpt (Zbu hr))<|>(pv 1)<&&>((Zka K rfl)<|>(pv 0)<||>Zac)))⟩))<&>((pv 2)<&>Zaa))))))),?_⟩;walk_at "wp";refine ⟨C,dx,_,hg,T.cl_Ground,T.nP,_,Zep p,rfl,Zdz (λhc=>?_) (λhc=>?_)⟩
  .have hp0:¬ p = 0:=by simpa using hc
   refine ⟨_,.inl (SqL.of hv),λl hl=>⟨by decide,λt ht=>?_⟩⟩;have s1:=Same.new (o:=.lst vs) hl;have s2:=Same.new (o:=.tup [V.ref l,V.int 1]) ht;have ev:=Zst hp0 al;refine q t l (xs.map λx=>x.1) 1 _ (s1.trans s2) hl Zab (by show upd (upd H l (.lst vs)) t _ l = _; rw [s2 _ _ Zab,ev]) ⟨by rw [Jab],by decide,λ_=>rfl,λi=>?_⟩ (λz hz=>?_) (by
    show (1:Int).natAbs < 2 ^ _;exact Nat.one_lt_two_pow (by rw [Jb6]; omega))
   .rw [Jac,Jac,Jad];cases e:xs[i]? with
    | none=>rfl
    | some x=>
     rcases (gd _ (Jae e)).1 with ⟨h,_⟩ | ⟨_,_,_,h⟩
     .exact absurd h hp0
     .show x.1 * x.2 = x.1 * 1;rw [h]
   .obtain ⟨x,hx,rfl⟩:=Jap.mp hz;refine (gd x hx).2.1.le ?_;rw [Jb6];omega
  .have hp0:p = 0:=by simpa using hc
   refine ⟨_,rfl,a,rfl,⟨_,SqL.of hv⟩,Zfu (xs:=vs) (λi σ H2=>∃ (v3:Option V) (b:Int),σ = [some (.ref g),some (.ref a),some (.int b),v3]/\Same H H2/\0 < b/\b.natAbs<=2 ^ (i * k)/\∀ j,j < i->(xs.getD j (0,1)).2 ∣ b)
    ⟨none,1,rfl,Same.refl _,by decide,by simp,λj hj=>by omega⟩ (λi σ H2 _ ⟨_,_,_,e,_⟩=>SqL.of (e _ _ hv)) ?_ ?_⟩
   .rintro i x σ H2 hi ⟨v3,b,rfl,s2,b0,bB,dv⟩;obtain ⟨y,ey,hy⟩:=al.at' hi;obtain ⟨ty,rfl,hty⟩:=hy.ref hp0;obtain ⟨iy,by1,by2⟩:=gd y (Jae ey);have hil:i < vs.length:=(Jah.mp hi).1;have kik:i * k + k<=(xs.length + 1) * k:=by
     rw [show i * k + k = (i + 1) * k by rw [Jb6,Nat.one_mul]];exact Jaz (by omega) (Jag _)
    have bT:Bt NB b:=Jbo bB (Jeo (by decide) (by omega));have yT:Bt NB y.2:=by2.le (by omega);walk_at "wp";refine ⟨_,SqT.of (s2 _ _ hty),_,rfl,b,y.2,rfl,b0,iy.pos,bT,yT,λm H3 s3 m0 d1 d2 ml=>⟨_,m,⟨rfl,rfl⟩,s2.trans s3,m0,?_,λj hj=>?_⟩⟩
    .have h1:(b * y.2).natAbs<=2 ^ (i * k) * 2 ^ k:=Zav bB (Jcd by2);rw [Jb6,Nat.one_mul,Jfj];exact oz88 m0 ml h1
    .by_cases h:j = i
     .subst h; rw [Zah ey]; exact d2
     .exact Int.dvd_trans (dv j (Zmp hj h)) d1
   .rintro σ H2 ⟨v3,b,rfl,s2,b0,bB,dv⟩;rw [vl] at bB dv;walk_at "wp";refine ⟨_,rfl,a,rfl,⟨_,SqL.of (s2 _ _ hv)⟩,λD hD=>Zgp (λi=>(xs.getD i (0,1)).1 * (b / (xs.getD i (0,1)).2)) (s2 _ _ hv) hD (by omega) (λi x H' Q' hx s' q'=>?_) λH1 s1 e1=>?_⟩
    .obtain ⟨y,ey,hy⟩:=al.at' hx;obtain ⟨ty,rfl,hty⟩:=hy.ref hp0;obtain ⟨iy,by1,by2⟩:=gd y (Jae ey);have hil:i < vs.length:=(Jah.mp hx).1;have d2:=dv i (Ze2 vl hil);have q2:=q' H' (Same.refl _);rw [Zah ey] at d2 q2;have hty':=(s2.trans s') _ _ hty;have bT:Bt NB b:=Jbo bB (Jeo (by decide) (by rw [Jb6] at kb; omega));have fe:=Zc9 (i:=b) iy.pos;refine ⟨_,rfl,ty,_,_,_,rfl,rfl,SqT.of hty',rfl,_,rfl,_,rfl,ty,_,_,_,rfl,rfl,SqT.of hty',rfl,_,_,rfl,rfl,(by have:=iy.pos; omega),_,_,rfl,rfl,?_,?_⟩
     .rw [fe];exact (by1.le (m:=NB) (by rw [Jb6] at kb; omega)).ok (bT.quo d2) (by decide)
     .rw [fe];exact q2
    .rw [vl] at e1;refine ⟨by decide,λt ht=>?_⟩;have s3:=Same.new (o:=.tup [V.ref D,V.int b]) ht;refine q t D ((List.range xs.length).map λi=>(xs.getD i (0,1)).1 * (b / (xs.getD i (0,1)).2)) b _ ((s2.trans s1).trans s3) (s2.free hD) Zab (s3 _ _ e1) ⟨by rw [Jab,Jao],b0,λh=>absurd hp0 h,λi=>?_⟩ (λz hz=>?_) (Jbo bB (Jeo (by decide) (by rw [Jb6]; omega)))
     .rw [Jac,Jad];by_cases hi:i < xs.length
      .have e:xs[i]? = some xs[i]:=Jaa hi;have d2:=dv i hi;rw [Jav hi];show (xs.getD i (0,1)).1 * (b / (xs.getD i (0,1)).2) * (xs.getD i (0,1)).2 = _;rw [Int.mul_assoc,Jck d2]
      .rw [Jaj (by simp; exact Zhf hi),Jac,Jaj (Zhf hi)];simp
     .obtain ⟨i,hi,rfl⟩:=Jap.mp hz;have hi:=Ja4.mp hi;have e:xs[i]? = some xs[i]:=Jaa hi;have d2:=dv i hi;rw [Zah e] at d2 ⊢;obtain ⟨iy,by1,by2⟩:=gd _ (Jaw hi);have h1:(b / xs[i].2).natAbs<=b.natAbs:=Zc7 b iy.pos d2;have h2:=Zav (Jag xs[i].1.natAbs) (Jat h1 bB);show (xs[i].1 * (b / xs[i].2)).natAbs < 2 ^ ((xs.length + 1) * k);rw [Jb6,Nat.one_mul,Jfj,Je3];exact Jbo h2 (Nat.mul_lt_mul_of_pos_right by1 (Jbj _))
theorem Zet {zs:List Int} {i:Nat} {x:V} (h:(zs.map V.int)[i]? = some x):∃ z,zs[i]? = some z/\x = .int z:=by
 rw [Jad] at h;cases e:zs[i]? with
 | none=>rw [e] at h; cases h
 | some z=>rw [e] at h; cases h; exact ⟨z,rfl,rfl⟩
theorem Zik {zs:List Int} (f:Int->Int):(List.range zs.length).map (λi=>f (zs.getD i 0)) = zs.map f:=by
 apply Jcm;intro i;rw [Jad,Jad];by_cases hi:i < zs.length
 .rw [Jav hi,Jaa hi];show some (f (zs.getD i 0)) = some (f zs[i]);rw [Zah (Jaa hi)]
 .rw [Jaj (by simp; exact Zhf hi),Jaj (Zhf hi)];rfl
def Zne (C:Addr):Sp:=λvs H Q _=>∃ (g a:Addr) (p:Int) (zs:List Int),vs = [.ref g,.ref a]/\GAt C H g p/\GroundP p/\RowZ H a zs/\zs.length<=900/\(p = 0->SmallR NB zs) /\
 ∀ (a':Addr) H',Same H H'->RowZ H' a' (Zd0 p zs)->(a' = a\/H a' = none)->Q (.ref a') H'
theorem ok_tidy {f:Addr} {fd:FuncData} (F:Fun K "tidied" "tidied" Zfp f fd) (T:Txt K mg C) (hpt:P.given.tree = none) (C_common_divisor:Cal P w K mg base "common_divisor" 4 Zoj):FnOk P w K mg base CX0 5 f fd ["ground","row"] (Zne C):=by
 have nd:=Zk3.nd;refine F.ok Zk3 (λvs H Q E h=>?_) (λcdv A outer s H vs Q E hr h=>?_)
 .obtain ⟨g,a,p,zs,rfl,_⟩:=h;rfl
 .obtain ⟨g,a,p,zs,rfl,⟨dx,hg⟩,hp,rz,zl,sm,q⟩:=h;refine ⟨_,((@Za4 _ _ _ _ _ _ _ _ (Zai Zgn (Zlb (pv 0) rfl) Zac (Zan _)) (~~~(Za6 (own:=["number"]) (fr:=[("ground",0)]) rfl (Zb0 (by kernel_rfl)) (Zbd (pv 1)) (λ_ _ _ _=>⟨(@Zae _ _ 0 _ (show (["number","ground"]:List Str).Nodup by decide +kernel) rfl (Or.inl rfl) (Or.inr rfl)),Za1,(Zct<|>(pv 0)<&&>(pe_fldK K rfl (pv 1) rfl))⟩))) Zao)<*>((Zar (i:=2) nd rfl (Or.inr rfl) Zac)<*>((Zco Ja8 rfl (Zbd (pv 1)) (@Zae _ _ 3 _ nd rfl (Or.inl rfl) (Or.inl rfl)) ((Zar (i:=2) nd rfl (Or.inr rfl) (Za5 C_common_divisor hr.m rfl ((pv 3)<&>((pv 2)<&>Zaa))))<*>(@Zas _ _ _ (@Za4 _ _ _ _ _ _ _ _ (Zai Zem (pv 2) Zac (Zan _)) (~~~(pv 1)) Zao))))<*>((@Za4 _ _ _ _ _ _ _ _ (Zai Zem (pv 2) Zac (Zan _)) (~~~(pv 1)) Zao)<*>(~~~(Za6 (own:=["number"]) (fr:=[("divisor",2)]) rfl (Zb0 (by kernel_rfl)) (Zbd (pv 1)) (λ_ _ _ _=>⟨(@Zae _ _ 0 _ (show (["number","divisor"]:List Str).Nodup by decide +kernel) rfl (Or.inl rfl) (Or.inr rfl)),Za1,((Zci hpt (Zbu hr))<|>(pv 0)<&&>(pv 1))⟩))))))),?_⟩;walk_at "wp";refine ⟨C,dx,_,hg,T.cl_Ground,T.nP,_,Zep p,rfl,Zdz (λhc=>?_) (λhc=>?_)⟩
  .have hp0:¬ p = 0:=by simpa using hc
   have p0:=hp.lo;refine ⟨_,rfl,a,rfl,⟨_,SqL.of rz⟩,λD hD=>Zgp (λi=>zs.getD i 0 % p) rz hD (by rw [Jab]; exact Zom zl) (λi x H' Q' hx s' q'=>?_) λH1 s1 e1=>?_⟩
   .obtain ⟨z,ez,rfl⟩:=Zet hx;have q2:=q' H' (Same.refl _);rw [Zah ez] at q2;simp only [Zbp];walk_at "wp";exact ⟨_,rfl,_,rfl,C,dx,_,s' _ _ hg,T.cl_Ground,T.nP,_,Zep p,_,rfl,by omega,q2⟩
   .rw [Jab,Zik (· % p)] at e1;refine q D H1 s1 ?_ (.inr hD);unfold Zd0;rw [if_neg hp0];exact e1
  .have hp0:p = 0:=by simpa using hc
   have sm:=sm hp0;refine ⟨_,rfl,a,rfl,⟨_,SqL.of rz⟩,Zfu (xs:=zs.map V.int) (λi σ H2=>∃ (v3:Option V),σ = [some (.ref g),some (.ref a),some (.int (gcdL (zs.take i):Nat)),v3]/\Same H H2/\Bt NB (gcdL (zs.take i):Nat))
    ⟨none,rfl,Same.refl _,Zg1 _⟩ (λi σ H2 _ ⟨_,_,e,_⟩=>SqL.of (e _ _ rz)) ?_ ?_⟩
   .rintro i x σ H2 hi ⟨v3,rfl,s2,bg⟩;obtain ⟨z,ez,rfl⟩:=Zet hi;walk_at "wp";have eg:=Zrg ez;have bz:=sm z (Jae ez);refine ⟨z,_,rfl,bz,bg,λH3 s3=>?_⟩;rw [<- eg];refine ⟨rfl,Zdz (λhc=>?_) (λhc=>?_)⟩
    .have hc:(gcdL (zs.take (i + 1)):Int) = 1:=by simpa using hc
     have h1:gcdL zs = 1:=Nat.dvd_one.mp (by have:=Zrf zs (i + 1); rwa [show gcdL (zs.take (i + 1)) = 1 by omega] at this);refine q a H3 (s2.trans s3) ?_ (.inl rfl);subst hp0;rw [Zse h1];exact rz.same (s2.trans s3)
    .refine ⟨_,⟨rfl,rfl⟩,s2.trans s3,?_⟩;rw [eg];by_cases z0:z = 0
     .subst z0;refine bg.abs_le ?_;simp [Int.gcd]
     .refine bz.abs_le ?_;have:=Int.gcd_le_natAbs_left (gcdL (zs.take i):Int) z0;omega
   .rintro σ H2 ⟨v3,rfl,s2,bg⟩;rw [Jab,List.take_length] at *;walk_at "wp";refine Zdz (λhc=>?_) (λhc=>?_)
    .have hc:(gcdL zs:Int) = 0:=by simpa using hc
     refine q a H2 s2 ?_ (.inl rfl);subst hp0;rw [Zh2 (by omega)];exact rz.same s2
    .have hc:¬ (gcdL zs:Int) = 0:=by simpa using hc
     refine ⟨_,rfl,a,rfl,⟨_,SqL.of (s2 _ _ rz)⟩,λD hD=>Zgp (λi=>zs.getD i 0 / (gcdL zs:Int)) (s2 _ _ rz) hD (by rw [Jab]; exact Zom zl) (λi x H' Q' hx s' q'=>?_) λH1 s1 e1=>?_⟩
     .obtain ⟨z,ez,rfl⟩:=Zet hx;have q2:=q' H' (Same.refl _);rw [Zah ez,<- Zc9 (by omega)] at q2;exact ⟨_,rfl,_,rfl,z,_,rfl,rfl,hc,q2⟩
     .rw [Jab,Zik (· / (gcdL zs:Int))] at e1;refine q D H1 (s2.trans s1) ?_ (.inr (s2.free hD));unfold Zd0;rw [if_pos hp0];exact e1
def Zj1 (C:Addr):Sp:=λvs H Q _=>∃ (g a l:Addr) (p:Int) (row lead:List Int) (k:Nat),vs = [.ref g,.ref a,.ref l,.int k]/\GAt C H g p/\GroundP p/\RowZ H a row/\RowZ H l lead/\row.length = lead.length/\row.length<=900/\k < row.length/\lead.getD k 0 ≠ 0/\SmallR HB row/\SmallR HB lead /\
 ∀ (a':Addr) H',Same H H'->RowZ H' a' (Zbi p row lead k)->(a' = a\/H a' = none)->Q (.ref a') H'
theorem Zth {f:Addr} {fd:FuncData} (F:Fun K "cleared" "cleared" Zek f fd) (T:Txt K mg C) (hpt:P.given.tree = none) (C_common_divisor:Cal P w K mg base "common_divisor" 4 Zoj) (C_tidied:Cal P w K mg base "tidied" 5 (Zne C)):FnOk P w K mg base CX0 6 f fd ["ground","row","lead","place"] (Zj1 C):=by
 have nd:=Zjn.nd;refine F.ok Zjn (λvs H Q E h=>?_) (λcdv A outer s H vs Q E hr h=>?_)
 .obtain ⟨g,a,l,p,row,lead,k,rfl,_⟩:=h;rfl
 .obtain ⟨g,a,l,p,row,lead,k,rfl,hg,hp,ra,rl,hl,wl,kl,k0,s1,s2,q⟩:=h;refine ⟨_,((@Za4 _ _ _ _ _ _ _ _ (Zai Zem (Zat<|>(pv 1)<||>(pv 3)) Zac (Zan _)) (~~~(pv 1)) Zao)<*>((Zar (i:=4) nd rfl (Or.inl rfl) (Za5 C_common_divisor hr.m rfl ((Zat<|>(pv 1)<||>(pv 3))<&>((Zat<|>(pv 2)<||>(pv 3))<&>Zaa))))<*>((Zar (i:=5) nd rfl (Or.inr rfl) ((Zci hpt (Zbu hr))<|>(Zat<|>(pv 2)<||>(pv 3))<&&>(pv 4)))<*>((Zar (i:=6) nd rfl (Or.inr rfl) ((Zci hpt (Zbu hr))<|>(Zat<|>(pv 1)<||>(pv 3))<&&>(pv 4)))<*>(~~~(Za5 C_tidied hr.m rfl ((pv 0)<&>((Za6 (own:=["number","other"]) (fr:=[("keep",5),("take",6)]) rfl (Zb0 (by kernel_rfl)) (Zhe rfl T.n_zip ((pv 1)<&>((pv 2)<&>Zaa))) (λ_ _ _ _=>⟨(@Zfc _ K rfl _ _ _ _ 2 rfl (@Zag _ _ _ _ _ (@Zae _ _ 0 _ (show (["number","other","keep","take"]:List Str).Nodup by decide +kernel) rfl (Or.inl rfl) (Or.inr rfl)) (@Zag _ _ _ _ _ (@Zae _ _ 1 _ (show (["number","other","keep","take"]:List Str).Nodup by decide +kernel) rfl (Or.inl rfl) (Or.inr rfl)) (@Za3 _) (by rfl)) (by rfl)) (by rfl) (by rfl)),Za1,(Zfd<|>(Zbb<|>(pv 2)<&&>(pv 0))<&&>(Zbb<|>(pv 3)<&&>(pv 1)))⟩))<&>Zaa)))))))),?_⟩;walk_at "wp";have at_:∀ {zs:List Int},k < zs.length->atI (zs.map V.int) (k:Int) = some (.int (zs.getD k 0)):=λ{zs} h=>by
   refine Zcx Ze3 ?_;rw [Jau,Jad,Jaa h,Za0 h];rfl
  refine ⟨_,SqL.of ra,_,at_ kl,rfl,Zdz (λhc=>?_) (λhc=>?_)⟩
  .have hc:row.getD k 0 = 0:=by simpa using hc
   refine q a H (Same.refl _) ?_ (.inl rfl);unfold Zbi;rw [if_pos hc];exact ra
  .have hc:¬ row.getD k 0 = 0:=by simpa using hc
   have cz:Zbi p row lead k = Zd0 p (Zjp row lead k):=by unfold Zbi; rw [if_neg hc]
   refine ⟨_,SqL.of ra,_,at_ kl,_,SqL.of rl,_,at_ (Ze2 hl kl),_,_,rfl,(s1.at k).le (by decide),(s2.at k).le (by decide),λH1 t1=>?_⟩;have g0:(0:Int) < (Int.gcd (row.getD k 0) (lead.getD k 0):Int):=by have:=Jdv (row.getD k 0) k0; omega
   refine ⟨_,SqL.of (t1 _ _ rl),_,at_ (Ze2 hl kl),_,rfl,_,rfl,by omega,_,SqL.of (t1 _ _ ra),_,at_ kl,_,rfl,_,rfl,by omega,?_⟩;rw [Zc9 g0,Zc9 g0];have bl:=(s2.at k).quo (Jb0 (row.getD k 0) (lead.getD k 0));have br:=(s1.at k).quo (Jbv (row.getD k 0) (lead.getD k 0));have rlen:(Zjp row lead k).length = row.length:=by unfold Zjp; rw [Jd6]; omega
   refine ⟨_,rfl,_,rfl,a,l,rfl,⟨_,SqL.of (t1 _ _ ra)⟩,⟨_,SqL.of (t1 _ _ rl)⟩,λD hD=>Zfh (λi _ y=>y = .int ((Zjp row lead k).getD i 0)) (λr _=>r) (λr _=>r) (t1 _ _ ra) (t1 _ _ rl) (by rw [Jab,Jab]; exact oz19 hl) hD (by rw [Jab]; exact Zom wl) (λi x y H' Q' hx hy s' _ q'=>?_) λys H2 t2 e2 hyl hys=>?_⟩
   .obtain ⟨z,ez,rfl⟩:=Zet hx;obtain ⟨u,eu,rfl⟩:=Zet hy;simp only [Zbp];walk_at "wp";refine ⟨_,rfl,_,rfl,bl.ok (s1 z (Jae ez)) (by decide),_,rfl,_,rfl,br.ok (s2 u (Jae eu)) (by decide),q' _ H' (Same.refl _) ?_⟩;rw [Znm hl,Zah ez,Zah eu]
   .rw [Jab] at hyl;have e3:ys = (Zjp row lead k).map V.int:=by
     have e4:=Zik (zs:=Zjp row lead k) id;rw [List.map_id] at e4;rw [Zm4 hyl hys,<- rlen];exact Jdz (List.map V.int) e4
    rw [e3] at e2;have sr:SmallR NB (Zjp row lead k):=(Zkz s1 s2).le (by decide);have t12:=t1.trans t2;refine ⟨g,D,p,Zjp row lead k,rfl,hg.same t12,hp,e2,oz128 wl rlen,λ_=>sr,λa' H3 t3 r3 fr=>q a' H3 (t12.trans t3) (by rw [cz]; exact r3) ?_⟩;rcases fr with rfl | fr
    .exact .inr (t1.free hD)
    .exact .inr (t12.free fr)
end
end Pf
namespace Pf
open PySem L2 L3 PyProof.Rows
section
variable {P:Program} {w:World} {K:PySem.W.Frag} {mg:Str->Option Value} {base:Heap} {C PL cL:Addr}
abbrev Zos:HO:=(HO.tab 101 26 ("leading_row.<locals>." ++ "<lambda>"))
noncomputable def nzs (Z:List (List Int)) (k n:Nat):List Nat:=(List.range n).filter λj=>decide ((Z.getD j []).getD k 0 ≠ 0)
theorem Zmu {Z:List (List Int)} {k n j:Nat}:j ∈ nzs Z k n ↔ j < n/\(Z.getD j []).getD k 0 ≠ 0:=by
 unfold nzs;rw [Jdb,Ja4,Jcx]
theorem Zti {Z:List (List Int)} {k n:Nat}:nzs Z k (n + 1) = nzs Z k n ++ (if (Z.getD n []).getD k 0 ≠ 0 then [n] else []):=by
 unfold nzs;rw [Jc4,List.filter_append];congr 1;by_cases h:(Z.getD n []).getD k 0 ≠ 0
 .rw [if_pos h,List.filter_cons,if_pos (by simpa using h)];rfl
 .rw [if_neg h,List.filter_cons,if_neg (by simpa using h)];rfl
def spLr (PL:Addr):L2.Sp:=λvs H Q _=>∃ (L:Addr) (as:List Addr) (Z:List (List Int)) (k:Nat),vs = [.ref L,.int k]/\H L = some (.lst (as.map V.ref))/\All2 (RowZ H) as Z/\(∀ row ∈ Z,k < row.length)/\Z.length<=900/\H PL = some Zos /\
 (∀ H',Same H H'->(∀ row ∈ Z,row.getD k 0 = 0)->Q .non H')/\(∀ (i:Nat) row H',Same H H'->Z[i]? = some row->row.getD k 0 ≠ 0->Q (.int i) H')
theorem ok_lr {f:Addr} {fd:FuncData} (F:FunC K "leading_row" "leading_row" Zbr f fd cL) (T:Txt K mg C) (hcb:PySem.W.CodeHd base cL PL):FnOk P w K mg base CX0 1 f fd ["rows","place"] (spLr PL):=by
 have nd:=Zf0.nd;refine F.ok Zf0 (λvs H Q E h=>?_) (λA outer s H vs Q E hr h=>?_)
 .obtain ⟨L,as,Z,k,rfl,_⟩:=h;rfl
 .obtain ⟨L,as,Z,k,rfl,hL,al,wd,zl,hP,q0,q1⟩:=h;have hdep:(A.deeper (envOfC "leading_row" (Zad Zbr) s.heap.objs.size f (.ref cL))).depth < recursionLimit:=by have:=hr.dp; omega
  refine ⟨_,((Zf9 (i:=2) (own:=["at","row"]) (fr:=[("place",1)]) rfl (Zb0 (by kernel_rfl)) (Zuq rfl T.n_enumerate ((pv 0)<&>Zaa)) (λ_ _ _ _=>⟨(@Zfc _ K rfl _ _ _ _ 2 rfl (@Zag _ _ _ _ _ (@Zae _ _ 0 _ (show (["at","row","place"]:List Str).Nodup by decide +kernel) rfl (Or.inl rfl) (Or.inr rfl)) (@Zag _ _ _ _ _ (@Zae _ _ 1 _ (show (["at","row","place"]:List Str).Nodup by decide +kernel) rfl (Or.inl rfl) (Or.inr rfl)) (@Za3 _) (by rfl)) (by rfl)) (by rfl) (by rfl)),(Zmo (Zai Zgn ((Zd5 K rfl)<|>(pv 1)<||>(pv 2)) Zac (Zan _))),(pv 0)⟩) nd rfl rfl rfl)<*>(~~~(pe_minL (x:="at") (fr:=[("rows",0),("place",1)]) rfl hdep rfl T.n_min (lam_of (by kernel_rfl)) rfl hcb rfl (λ_ _ _ _ _=>rfl) (pv 2) (λ_ _ _ _ _=>(Zcj Zd7 rfl T.n_abs Jfk (((Zd5 K rfl)<|>((Zd5 K rfl)<|>(pv 1)<||>(pv 0))<||>(pv 2))<&>Zaa)))))),?_⟩;refine Zfv λX hX=>?_;walk_at "wp";have zal:=al.1;have aft:∀ (D:Addr) (H1:Hp),Same H H1->H1 D = some (.lst ((nzs Z k as.length).map λ(j:Nat)=>V.int j))->X { nx:=λx H'=>Q V.non H',rt:=Q } [some (.ref L),some (.int k),some (.ref D)] H1:=by
   intro D H1 t1 hD;subst hX;walk_at "wp";refine ⟨_,SqL.of hD,t1 _ _ hP,λi=>((((Z.getD ((nzs Z k as.length).getD i 0) []).getD k 0).natAbs:Nat):Int),λi v H2 hi t2=>?_,λe H2 t2=>?_,λi v H2 _ hi t2=>?_⟩
   .rw [Jad] at hi;cases e:(nzs Z k as.length)[i]? with
    | none=>rw [e] at hi; cases hi
    | some j=>
     rw [e] at hi;cases hi;obtain ⟨h1,h2⟩:=Zmu.mp (Jae e);have ea:as[j]? = some as[j]:=Jaa h1;obtain ⟨row,er,ha⟩:=al.at' ea;have kr:=wd row (Jae er);have t12:=t1.trans t2;have ew:(nzs Z k as.length).getD i 0 = j:=by rw [Jac,e]; rfl
     have ez:Z.getD j [] = row:=by rw [Jac,er]; rfl
     refine ⟨_,rfl,L,rfl,_,_,rfl,SqL.of (t12 _ _ hL),_,Zcx Ze3 (by rw [Jau,Jad,ea]; rfl),_,rfl,as[j],rfl,_,_,rfl,SqL.of (t12 _ _ ha),_,Zcx Ze3 (by rw [Jau,Jad,Jaa kr]; rfl),row[k],rfl,?_,Same.refl _⟩;show _ = ((((Z.getD ((nzs Z k as.length).getD i 0) []).getD k 0).natAbs:Nat):Int);rw [ew,ez,Za0 kr];split <;> omega
   .have e0:nzs Z k as.length = []:=List.map_eq_nil_iff.mp e;refine q0 H2 (t1.trans t2) λrow hr=>?_;obtain ⟨j,hj,rfl⟩:=Zbs hr [];apply Ja3;intro z;have:j ∈ nzs Z k as.length:=Zmu.mpr ⟨Zck zal hj,z⟩;rw [e0] at this;simp at this
   .rw [Jad] at hi;cases e:(nzs Z k as.length)[i]? with
    | none=>rw [e] at hi; cases hi
    | some j=>
     rw [e] at hi;cases hi;obtain ⟨h1,h2⟩:=Zmu.mp (Jae e);exact q1 j (Z.getD j []) H2 (t1.trans t2) (by rw [Za0 (Ze2 zal h1)]; exact Jaa _) h2
  refine ⟨_,rfl,L,rfl,⟨_,SqL.of hL⟩,λD hD=>Zt8 (xs:=as.map V.ref) (λi vs H2=>Same H H2/\H2 D = some (.lst vs)/\vs = (nzs Z k i).map λ(j:Nat)=>V.int j) ⟨Same.new hD,Zab,rfl⟩ (λi vs H2 _ p=>SqL.of (p.1 _ _ hL)) ?_ λvs H2 ⟨t2,e2,e3⟩=>?_⟩
  .rintro i x q' vs σ' H2 hi hx hq sh ⟨t2,e2,e3⟩;obtain ⟨z1,z2,rfl⟩:=sh.two;have s0:=Same.new (o:=.tup [.int i,x]) hq;rw [Jad] at hx;cases ea:as[i]? with
   | none=>rw [ea] at hx; cases hx
   | some a=>
    rw [ea] at hx;cases hx;obtain ⟨row,er,ha⟩:=al.at' ea;have kr:=wd row (Jae er);have ez:Z.getD i [] = row:=by rw [Jac,er]; rfl
    have hln:vs.length<=900:=by
     rw [e3,Jab];refine Jat (List.length_filter_le _ _) ?_;rw [Jao];rw [Jab] at hi;omega
    simp only [Zf6];refine ⟨q',_,rfl,SqT.of Zab,rfl,_,_,rfl,_,_,rfl,rfl,?_⟩;simp only [Jbi,Jce,Zbp];walk_at "wp";refine ⟨_,rfl,_,_,rfl,SqL.of ((t2.trans s0) _ _ ha),_,Zcx Ze3 (by rw [Jau,Jad,Jaa kr]; rfl),rfl,?_⟩;have nx:=Zti (Z:=Z) (k:=k) (n:=i);rw [ez,Za0 kr] at nx;refine Zdz (λhc=>?_) (λhc=>?_)
    .have hc:row[k] ≠ 0:=by simpa using hc
     rw [if_pos hc] at nx;refine Zo0 (ws:=vs ++ [V.int i]) hi Sh.mk2 (s0 _ _ e2) (Zau (Zom hln)) ⟨(t2.trans s0).upd hD,Zab,?_⟩;rw [e3,nx,Jbe];rfl
    .have hc:¬ row[k] ≠ 0:=by simpa using hc
     rw [if_neg hc,List.append_nil] at nx;exact leaf0 (ws:=vs) hi Sh.mk2 ⟨t2.trans s0,s0 _ _ e2,by rw [e3,nx]⟩
  .rw [Jab] at e3;rw [e3] at e2;exact aft D H2 t2 e2
def Zl9 (p:Int) (k:Nat) (zs:List Int) (xs:List Nv):Prop:=∃ ws b,WRz p xs ws b/\SmallR ((xs.length + 1) * k) ws/\zs = Zd0 p ws
def Zex (p:Int) (k:Nat) (Z:List (List Int)) (M:Mv):Prop:=All2 (Zl9 p k) Z M
def Zgd (p:Int) (k wide:Nat) (M:Mv):Prop:=∀ Z,Zex p k Z M->∀ j done left pl,j<=wide->Sw p Z j done left pl->∀ row ∈ done ++ left,SmallR HB row
structure RowsB (H:Hp) (p:Int) (k W:Nat) (L:Addr) (as:List Addr) (M:Mv):Prop where
 lst:H L = some (.lst (as.map V.ref))
 row:All2 (RowV H p) as M
 wd:∀ xs ∈ M,xs.length = W
 gd:∀ xs ∈ M,Zbc p k xs
 h900:M.length<=900
 w900:W<=900
 k1:1<=k
 kb:(W + 1) * k<=NB
structure SwH (H H2:Hp) (dA lA pA:Addr) (ds ls:List Addr) (done left:List (List Int)) (pl:List Nat):Prop where
 sm:Same H H2
 fd:H dA = none
 fl:H lA = none
 fp:H pA = none
 ne1:dA ≠ lA
 ne2:dA ≠ pA
 ne3:lA ≠ pA
 hd:H2 dA = some (.lst (ds.map V.ref))
 hl:H2 lA = some (.lst (ls.map V.ref))
 hp:H2 pA = some (.lst (pl.map λ(j:Nat)=>V.int j))
 rd:All2 (RowZ H2) ds done
 rl:All2 (RowZ H2) ls left
 nd:∀ a ∈ ds,H a = none/\a ≠ dA/\a ≠ lA/\a ≠ pA
 nl:∀ a ∈ ls,H a = none/\a ≠ dA/\a ≠ lA/\a ≠ pA
theorem SwH.same {H H2 H3:Hp} {dA lA pA:Addr} {ds ls:List Addr} {done left:List (List Int)} {pl:List Nat} (h:SwH H H2 dA lA pA ds ls done left pl) (s:Same H2 H3):SwH H H3 dA lA pA ds ls done left pl:=
 ⟨h.sm.trans s,h.fd,h.fl,h.fp,h.ne1,h.ne2,h.ne3,s _ _ h.hd,s _ _ h.hl,s _ _ h.hp,h.rd.mono λ_ _ k=>k.same s,h.rl.mono λ_ _ k=>k.same s,h.nd,h.nl⟩
theorem All2.eraseIdx {α β:Type} {P:α->β->Prop} {xs:List α} {ys:List β} (h:All2 P xs ys) (n:Nat):All2 P (xs.eraseIdx n) (ys.eraseIdx n):=by
 rw [Jcv,Jcv];exact (h.take n).app (h.drop (n + 1))
theorem All2.of_get {α β:Type} {P:α->β->Prop} {xs:List α} {ys:List β} {d:β} (hl:xs.length = ys.length) (h:∀ (i:Nat) x,xs[i]? = some x->P x (ys.getD i d)):All2 P xs ys:=⟨hl,λi x y e1 e2=>by
 have:=h i x e1;rwa [Jac,e2] at this⟩
theorem Zbo {p:Int} {k W:Nat} {Z:List (List Int)} {M:Mv} (h0:0<=p) (h:Zex p k Z M) (wd:∀ xs ∈ M,xs.length = W):∀ row ∈ Z,Rw p W row:=λrow hr=>by
 obtain ⟨i,hi,e⟩:=Jas.mp hr;obtain ⟨xs,ex,ws,b,w1,_,rfl⟩:=h.at' (i:=i) (x:=row) (by rw [Jaa hi,e]);exact Zps h0 (w1.len.trans (wd xs (Jae ex)))
theorem tyL {H:Hp} {p:Addr} {xs:List V} (h:H p = some (.lst xs)):tyV K "list" (.ref p) H:=.inl ⟨rfl,_,SqL.of h⟩
theorem seqIx {j n:Nat} (h:j < n):PySem.seqIndex? (j:Int) n = some j:=by
 unfold PySem.seqIndex?;simp only [show ¬ ((j:Int) < 0) by omega,Jdu];rw [if_pos (by simp; exact oz61 h)];rfl
theorem Zlu {α β:Type} (f:α->β) (xs:List α) (n:Nat):(xs.map f).eraseIdx n = (xs.eraseIdx n).map f:=by
 rw [Jcv,Jcv,Jbe,List.map_take,Jfl]
def Zmg (C PL:Addr):L2.Sp:=λvs H Q _=>∃ (g L:Addr) (p:Int) (as:List Addr) (M:Mv) (k W wide:Nat),vs = [.ref g,.ref L,.int wide]/\GAt C H g p/\GroundP p/\RowsB H p k W L as M/\wide<=W/\H PL = some Zos/\Zgd p k wide M /\
 ∀ (t F pA:Addr) (rs:List Addr) (Z done left:List (List Int)) (pl:List Nat) H',Same H H'->H' t = some (.tup [.ref F,.ref pA])->H F = none->H pA = none->F ≠ pA->H' pA = some (.lst (pl.map λ(j:Nat)=>V.int j))->H' F = some (.lst (rs.map V.ref))->All2 (RowZ H') rs (done ++ left)->(∀ a ∈ rs,H a = none/\a ≠ F/\a ≠ pA)->
  Zex p k Z M->Sw p Z wide done left pl->Q (.ref t) H'
theorem Ztb {f:Addr} {fd:FuncData} (F:Fun K "swept" "swept" Zgv f fd) (T:Txt K mg C) (C_whole_row:Cal P w K mg base "whole_row" 6 (Zsj C)) (C_tidied:Cal P w K mg base "tidied" 5 (Zne C)) (C_cleared:Cal P w K mg base "cleared" 6 (Zj1 C)) (C_leading_row:Cal P w K mg base "leading_row" 1 (spLr PL)):FnOk P w K mg base CX0 7 f fd ["ground","rows","wide"] (Zmg C PL):=by
 have nd:=Znj.nd;refine F.ok Znj (λvs H Q E h=>?_) (λcdv A outer s H vs Q E hr h=>?_)
 .obtain ⟨g,L,p,as,M,k,W,wide,rfl,_⟩:=h;rfl
 .obtain ⟨g,L,p,as,M,k,W,wide,rfl,hg,hp,R,hw,hPL,sw,q⟩:=h;refine ⟨_,((Zar (i:=3) nd rfl (Or.inl rfl) (@Zce _ _ _ _ Zaa))<*>((Zf9 (i:=4) (own:=["row"]) (fr:=[("ground",0)]) rfl (Zb0 (by kernel_rfl)) (Zbd (pv 1)) (λ_ _ _ _=>⟨(@Zae _ _ 0 _ (show (["row","ground"]:List Str).Nodup by decide +kernel) rfl (Or.inl rfl) (Or.inr rfl)),Za1,(Za5 C_tidied hr.m rfl ((pv 1)<&>(((Zka K rfl)<|>(Za5 C_whole_row hr.m rfl ((pv 1)<&>((pv 0)<&>Zaa)))<||>Zac)<&>Zaa)))⟩) nd rfl rfl rfl)<*>((Zar (i:=5) nd rfl (Or.inl rfl) (@Zce _ _ _ _ Zaa))<*>((Zco Ja8 rfl (Zgb rfl T.n_range ((pv 2)<&>Zaa)) (@Zae _ _ 6 _ nd rfl (Or.inr rfl) (Or.inl rfl)) ((Zar (i:=7) nd rfl (Or.inl rfl) (Za5 C_leading_row hr.m rfl ((pv 4)<&>((pv 6)<&>Zaa))))<*>(@Zas _ _ _ (@Za4 _ _ _ _ _ _ _ _ (Zai op_notN (pv 7) Zf5 (Zan _)) ((Zar (i:=8) nd rfl (Or.inr rfl) (Zhm Jbk PySem.F.slot_list_pop PySem.F.type_list_pop Ztk (pv 4) ((pv 7)<&>Zaa)))<*>((Zf9 (i:=4) (own:=["row"]) (fr:=[("ground",0),("lead",8),("place",6)]) rfl (Zb0 (by kernel_rfl)) (Zbd (pv 4)) (λ_ _ _ _=>⟨(@Zae _ _ 0 _ (show (["row","ground","lead","place"]:List Str).Nodup by decide +kernel) rfl (Or.inl rfl) (Or.inr rfl)),Za1,(Za5 C_cleared hr.m rfl ((pv 1)<&>((pv 0)<&>((pv 2)<&>((pv 3)<&>Zaa)))))⟩) nd rfl rfl rfl)<*>((Zdx (Zhm Jbk Jbt Jbu Zb1 (pv 3) ((pv 8)<&>Zaa)))<*>(@Zas _ _ _ (Zdx (Zhm Jbk Jbt Jbu Zb1 (pv 5) ((pv 6)<&>Zaa))))))) Zao))))<*>(~~~(@Za9 _ _ _ _ _ ((Zp5<|>(pv 3)<&&>(pv 4))<&>((pv 5)<&>Zaa)))))))),?_⟩;walk_at "wp";have p0:=hp.lo;have ml:=R.row.1;have h9:=R.h900;have w9:=R.w900;have k1:=R.k1;have kb:=R.kb;refine ⟨by decide,λdA hdA=>?_⟩;have s1:=Same.new (o:=.lst []) hdA;refine ⟨_,rfl,L,rfl,⟨_,SqL.of (s1 _ _ R.lst)⟩,λlA hlA=>Zcc (λi Hc y=>∃ (a:Addr) (zs:List Int),y = .ref a/\RowZ Hc a zs/\Zl9 p k zs (M.getD i [])/\H a = none/\a ≠ dA/\a ≠ lA) (λ⟨a,zs,e,b,c⟩ s=>⟨a,zs,e,b.same s,c⟩) (λ⟨a,zs,e,b,c,d,e',f⟩ hD=>⟨a,zs,e,b.put f,c,d,e',f⟩) (s1 _ _ R.lst) hlA (by rw [Jab]; omega) (λi x H' Q' hx s' ⟨lD,hlD⟩ q'=>?_) (λys H1 s2 e2 hyl hys=>?_)⟩
  .obtain ⟨row,er,a,rfl,rv⟩:=(Zay R.row).at' hx;have hrow:=Jae er;have wr:=R.wd row hrow;have t1:=s1.trans s';refine ⟨_,rfl,_,rfl,_,rfl,g,a,p,row,k,rfl,hg.same t1,hp,rv.same t1,oz128 w9 wr,R.gd row hrow,k1,by rw [wr]; exact kb,λt l zs b H2 s3 fl ht rz wz sz _=>?_⟩;refine ⟨t,_,0,_,rfl,rfl,SqT.of ht,rfl,g,l,p,zs,rfl,hg.same (t1.trans s3),hp,rz,by rw [wz.len]; exact oz128 w9 wr,λ_=>sz.le (by rw [wr]; exact kb),λa' H3 s4 rz' fr=>?_⟩;have hn:H' a' = none:=by
    rcases fr with rfl | fr
    .exact fl
    .exact s3.free fr
   refine q' _ H3 (s3.trans s4) ⟨a',_,rfl,rz',⟨zs,b,?_,?_,rfl⟩,t1.free hn,λz=>?_,λz=>?_⟩
   .rw [Zah er]; exact wz
   .rw [Zah er]; exact sz
   .rw [z,s' _ _ Zab] at hn; cases hn
   .rw [z,hlD] at hn; cases hn
  rw [Jab] at hyl;obtain ⟨ls,rfl,hls⟩:=Zij (P:=λi a=>∃ zs,RowZ H1 a zs/\Zl9 p k zs (M.getD i [])/\H a = none/\a ≠ dA/\a ≠ lA) λi y e=>let ⟨a,zs,h1,h2⟩:=hys i y e; ⟨a,h1,zs,h2⟩;rw [Jab] at hyl;obtain ⟨Z,hZ⟩:=All2.pick (P:=λ(ai:Addr × Nat) zs=>RowZ H1 ai.1 zs/\Zl9 p k zs (M.getD ai.2 [])/\H ai.1 = none/\ai.1 ≠ dA/\ai.1 ≠ lA) (xs:=ls.zipIdx) λai hai=>by
   obtain ⟨a,i⟩:=ai;have hi:=Jdi.mp hai;exact hls i a hi
  have zlen:Z.length = ls.length:=by have:=hZ.1; rw [Jfa] at this; exact oz19 this
  have zat:∀ (i:Nat) (a:Addr) (zs:List Int),ls[i]? = some a->Z[i]? = some zs->RowZ H1 a zs/\Zl9 p k zs (M.getD i [])/\H a = none/\a ≠ dA/\a ≠ lA:=λi a zs e1 e2=>by
   have:=hZ.2 i (a,i) zs (by rw [Jep,e1]; simp) e2;exact this
  have IR:Zex p k Z M:=⟨oz26 ml hyl zlen,λi zs xs e1 e2=>by
   have hi:i < ls.length:=by have:=(Jah.mp e1).1; exact Ze2 zlen this
   have:=(zat i _ zs (Jaa hi) e1).2.1;rwa [Zah e2] at this⟩
  have rlZ:All2 (RowZ H1) ls Z:=⟨oz19 zlen,λi a zs e1 e2=>(zat i a zs e1 e2).1⟩
  have nlZ:∀ a ∈ ls,H a = none/\a ≠ dA/\a ≠ lA:=λa ha=>by
   obtain ⟨i,hi,rfl⟩:=Jas.mp ha;exact (zat i _ _ (Jaa hi) (Jaa (show i < Z.length by exact Zck zlen hi))).2.2
  have rwZ:=Zbo p0 IR R.wd;refine ⟨by decide,λpA hpA=>?_⟩;have s3:=Same.new (o:=.lst []) hpA;have t1:=s1.trans s2;have t13:=t1.trans s3;have nel:dA ≠ lA:=λz=>by rw [<- z,Zab] at hlA; cases hlA
  have H1d:H1 dA = some (.lst []):=s2 _ _ Zab;have nep:∀ {b:Addr} {o:HO},H1 b = some o->b ≠ pA:=λ{b o} e z=>by rw [z,hpA] at e; cases e
  have S0:SwH H (upd H1 pA (.lst [])) dA lA pA [] ls [] Z []:=⟨t13,hdA,s1.free hlA,t1.free hpA,nel,nep H1d,nep e2,by rw [Zal (nep H1d)]; exact H1d,by rw [Zal (nep e2)]; exact e2,Zab,All2.nil,rlZ.mono λ_ _ r=>r.same s3,λa ha=>by simp at ha,λa ha=>⟨(nlZ a ha).1,(nlZ a ha).2.1,(nlZ a ha).2.2,by
   obtain ⟨i,hi,rfl⟩:=Jas.mp ha;obtain ⟨zs,_,hz⟩:=rlZ.at' (Jaa hi);exact nep hz⟩⟩
  refine ⟨_,rfl,_,rfl,by omega,by omega,Zch (n:=wide) (λi σ H2=>∃ (lA:Addr) (ds ls:List Addr) (done left:List (List Int)) (pl:List Nat) (v6 v7 v8:Option V),σ = [some (.ref g),some (.ref L),some (.int wide),some (.ref dA),some (.ref lA),some (.ref pA),v6,v7,v8]/\SwH H H2 dA lA pA ds ls done left pl/\Sw p Z i done left pl)
   ⟨lA,[],ls,[],Z,[],none,none,none,rfl,S0,Sw.start⟩ ?_ ?_⟩
  .rintro i σ H2 hi ⟨lA,ds,ls,done,left,pl,v6,v7,v8,rfl,S,sw1⟩;have I:=sw1.inv p0 rwZ;have rwl:∀ row ∈ left,Rw p W row:=λrow hr=>I.rw row (Jal.mpr (.inr hr));have zl:=zlen;have ill:=I.all;have idl:=I.len;have smA:=sw Z IR i done left pl (oz154 hi) sw1;refine Zt6 λD1 hD1=>?_;simp only [Zb4,Jbi,Jce];refine Zfv λX hX=>?_;walk_at "wp";have ei:(0:Int) + (i:Int) = (i:Int):=by omega
   rw [ei];refine ⟨lA,ls,left,i,rfl,S.hl,S.rl,λrow hr=>by rw [(rwl row hr).1]; exact Zr4 hw hi,by omega,S.sm _ _ hPL,λH3 s3 hz=>?_,λj lead H3 s3 hj hk=>?_⟩
   .subst hX;refine cutI λY hY=>?_;walk_at "wp";rw [if_neg (by decide)];subst hD1;exact ⟨_,_,_,_,_,_,_,_,_,rfl,S.same s3,Sw.skip sw1 hz⟩
   .have S3:=S.same s3;subst hX;dsimp only;refine cutI λY hY=>?_;walk_at "wp";rw [if_pos (by decide)];subst hY;refine Zfv λX hX=>?_;walk_at "wp";have hjl:j < left.length:=(Jah.mp hj).1;have hjs:j < ls.length:=by have:=S3.rl.1; exact Zhu hjl this
    have ej:ls[j]? = some ls[j]:=Jaa hjs;have rlead:=S3.rl.2 j _ _ ej hj;have nlead:=S3.nl _ (Jae ej);generalize ls[j] = aL at *;have hlm:lead ∈ left:=Jae hj;refine ⟨tyL S3.hl,_,S3.hl,by omega,by omega,j,by rw [Jab]; exact seqIx hjs,.ref aL,by rw [Jad,ej]; rfl,?_⟩;rw [Zlu];have hlp:upd H3 lA (.lst ((ls.eraseIdx j).map V.ref)) lA = some (.lst ((ls.eraseIdx j).map V.ref)):=Zab;have keep:∀ {b:Addr} {o:HO},b ≠ lA->H3 b = some o->upd H3 lA (.lst ((ls.eraseIdx j).map V.ref)) b = some o:=λn e=>by rw [Zal n]; exact e
    have sm4:Same H (upd H3 lA (.lst ((ls.eraseIdx j).map V.ref))):=S3.sm.upd S3.fl;have re:All2 (RowZ (upd H3 lA (.lst ((ls.eraseIdx j).map V.ref)))) (ls.eraseIdx j) (left.eraseIdx j):=(S3.rl.eraseIdx j).monoM λa _ ha r=>keep (S3.nl a (Jb1 ha)).2.2.1 r;have hd4:=keep S3.ne1 S3.hd;have hp4:=keep (Jcg S3.ne3) S3.hp;have rl4:RowZ (upd H3 lA (.lst ((ls.eraseIdx j).map V.ref))) aL lead:=keep nlead.2.2.1 rlead;have rd4:All2 (RowZ (upd H3 lA (.lst ((ls.eraseIdx j).map V.ref)))) ds done:=S3.rd.monoM λa _ ha r=>keep (S3.nd a ha).2.2.1 r;generalize upd H3 lA (.lst ((ls.eraseIdx j).map V.ref)) = H4 at *;have elen:(ls.eraseIdx j).length = (left.eraseIdx j).length:=re.1;subst hX;refine Zfv λX hX=>?_;refine ⟨_,rfl,lA,rfl,⟨_,SqL.of hlp⟩,λD hD=>Zcc (λi' Hc y=>∃ a:Addr,y = .ref a/\RowZ Hc a (Zbi p ((left.eraseIdx j).getD i' []) lead i)/\H a = none/\a ≠ dA/\a ≠ D/\a ≠ pA) (λ⟨a,e,b,c⟩ s=>⟨a,e,b.same s,c⟩) (λ⟨a,e,b,c,d,e',f⟩ hD=>⟨a,e,b.put e',c,d,e',f⟩) hlp hD (by rw [Jab]; have:=List.length_eraseIdx_le ls j; have:=S3.rl.1; omega) (λi' x H' Q' hx s' ⟨lD,hlD⟩ q'=>?_) (λys H5 s5 e5 hyl hys=>?_)⟩
    .obtain ⟨row,er,a,rfl,rz⟩:=(Zay re).at' hx;have hm:row ∈ left:=Jb1 (Jae er);have ha:a ∈ ls.eraseIdx j:=by
      have:=Jae hx;obtain ⟨b,hb,e⟩:=Jap.mp this;cases e;exact hb
     have nla:=S3.nl a (Jb1 ha);have rw1:=rwl row hm;have rw2:=rwl lead hlm;refine ⟨_,rfl,_,rfl,_,rfl,_,rfl,g,a,aL,p,row,lead,i,rfl,hg.same (sm4.trans s'),hp,rz.same s',rl4.same s',rw1.1.trans rw2.1.symm,by rw [rw1.1]; omega,by rw [rw1.1]; exact Zr4 hw hi,hk,smA row (Jal.mpr (.inr hm)),smA lead (Jal.mpr (.inr hlm)),λa' H6 s6 rz' fr=>q' _ H6 s6 ⟨a',rfl,?_,?_⟩⟩
     .rw [Zah er]; exact rz'
     .rcases fr with rfl | fr
      .exact ⟨nla.1,nla.2.1,λz=>(by have e1:H4 a' = some _:=rz; rw [z,hD] at e1; cases e1),nla.2.2.2⟩
      .exact ⟨(sm4.trans s').free fr,λz=>(by rw [z,s' _ _ hd4] at fr; cases fr),λz=>(by rw [z,hlD] at fr; cases fr),λz=>(by rw [z,s' _ _ hp4] at fr; cases fr)⟩
    .rw [Jab] at hyl;obtain ⟨bs,rfl,hbs⟩:=Zij (P:=λi' a=>RowZ H5 a (Zbi p ((left.eraseIdx j).getD i' []) lead i)/\H a = none/\a ≠ dA/\a ≠ D/\a ≠ pA) hys;rw [Jab] at hyl;have neD:∀ {b:Addr} {o:HO},H4 b = some o->b ≠ D:=λ{b o} e z=>by rw [z,hD] at e; cases e
     have hd5:=s5 _ _ hd4;have hp5:=s5 _ _ hp4;have dlen:=S3.rd.1;have hp6:upd H5 dA (.lst (ds.map V.ref ++ [V.ref aL])) pA = some (.lst (pl.map λ(j:Nat)=>V.int j)):=by rw [Zal (Jcg S3.ne2)]; exact hp5
     subst hX;walk_at "wp";refine ⟨tyL hd5,_,hd5,by rw [Jab]; exact Zau (by omega),tyL hp6,_,hp6,by rw [Jab]; exact Zau (by omega),?_⟩;subst hD1;refine ⟨D,ds ++ [aL],bs,done ++ [lead],(left.eraseIdx j).map (λrow=>Zbi p row lead i),pl ++ [i],_,_,_,rfl,⟨?_,hdA,sm4.free hD,S3.fp,neD hd4,S3.ne2,Jcg (neD hp4),?_,?_,?_,?_,?_,?_,?_⟩,Sw.take j lead sw1 hj hk⟩
     .exact ((sm4.trans s5).upd hdA).upd S3.fp
     .rw [Zal S3.ne2,Zab,Jbe]; rfl
     .rw [Zal (Jcg (neD hp4)),Zal (Jcg (neD hd4))]; exact e5
     .rw [Zab,Jbe]; rfl
     .refine All2.app (rd4.monoM λa _ ha r=>?_) (All2.one ?_)
      .exact ((r.same s5).put (S3.nd a ha).2.1).put (S3.nd a ha).2.2.2
      .exact ((rl4.same s5).put nlead.2.1).put nlead.2.2.2
     .refine All2.of_get (d:=[]) (by rw [Jab]; exact oz58 elen hyl) λi' b e=>?_;have hi':i' < (left.eraseIdx j).length:=by have:=(Jah.mp e).1; exact oz62 elen hyl this
      obtain ⟨h1,h2,h3,h4,h5⟩:=hbs i' b e;rw [Zah (show _ = some _ by rw [Jad,Jaa hi']; rfl)];rw [Za0 hi'] at h1;exact (h1.put h3).put h5
     .intro a ha;rcases Jal.mp ha with ha | ha
      .have hn:=S3.nd a ha;refine ⟨hn.1,hn.2.1,?_,hn.2.2.2⟩;obtain ⟨i',hi',rfl⟩:=Jas.mp ha;obtain ⟨zs,_,hz⟩:=rd4.at' (Jaa hi');exact neD hz
      .rw [Ja1.mp ha];exact ⟨nlead.1,nlead.2.1,neD rl4,nlead.2.2.2⟩
     .intro a ha;obtain ⟨i',hi',rfl⟩:=Jas.mp ha;obtain ⟨h1,h2,h3,h4,h5⟩:=hbs i' _ (Jaa hi');exact ⟨h2,h3,h4,h5⟩
  .rintro σ H2 ⟨lA,ds,ls,done,left,pl,v6,v7,v8,rfl,S,sw1⟩;have I:=sw1.inv p0 rwZ;have d1:=S.rd.1;have d2:=S.rl.1;have ill:=I.all;have zl:=zlen;walk_at "wp";refine ⟨_,S.hd,_,S.hl,by rw [Jab,Jab]; exact Jcd (Zau (by omega)),λF hF=>⟨by decide,λt ht=>?_⟩⟩;have s4:=Same.new (o:=.lst (ds.map V.ref ++ ls.map V.ref)) hF;have s5:=Same.new (o:=.tup [V.ref F,V.ref pA]) ht;have s45:=s4.trans s5;have neF:∀ {b:Addr} {o:HO},H2 b = some o->b ≠ F:=λ{b o} e z=>by rw [z,hF] at e; cases e
   refine q t F pA (ds ++ ls) Z done left pl _ (S.sm.trans s45) Zab (S.sm.free hF) S.fp (Jcg (neF S.hp)) (s45 _ _ S.hp) (s5 _ _ (by rw [Zab,Jbe])) ((S.rd.app S.rl).mono λ_ _ r=>r.same s45) (λa ha=>?_) IR sw1;have hn:H a = none/\a ≠ dA/\a ≠ lA/\a ≠ pA:=by
    rcases Jal.mp ha with ha | ha
    .exact S.nd a ha
    .exact S.nl a ha
   obtain ⟨i',hi',e'⟩:=Jas.mp ha;obtain ⟨zs,_,hz⟩:=(S.rd.app S.rl).at' (Jaa hi');rw [e'] at hz;exact ⟨hn.1,neF hz,hn.2.2.2⟩
theorem Zrn (xs:List V) (k:Int) (h0:0<=k) (h1:k<=xs.length):Zlz xs none (some k) = xs.take k.toNat:=by
 unfold Zlz HT.sIx;have:¬ k < 0:=by omega
 simp only [this,Jdu,List.drop_zero,Nat.sub_zero];congr 1;exact oz55 h1
theorem Zkh (xs:List V) (k:Int) (h0:0<=k) (h1:k<=xs.length):Zlz xs (some k) none = xs.drop k.toNat:=by
 unfold Zlz HT.sIx;have e:¬ k < 0:=by omega
 have e2:min k.toNat xs.length = k.toNat:=by exact oz55 h1
 simp only [e,Jdu,e2];rw [Jds];rw [Jbm];omega
theorem inv_tab:((List.range 98).all λp=>decide (p < 2) || (List.range p).any (λd=>decide (2<=d) && p % d == 0) || (List.range p).all λr=>r == 0 || (List.range p).any λk=>k * r % p == 1) = true:=by decide +kernel
theorem Zu2 {p b:Int} (hp:Zfi p) (hb:b % p ≠ 0):∃ k:Nat,1<=k/\(k:Int) < p/\(k:Int) * b % p = 1:=by
 obtain ⟨p1,p97,hd⟩:=hp;have h:=Jcj.mp inv_tab p.toNat (Ja4.mpr (by omega));have ep:((p.toNat:Nat):Int) = p:=Jcr (by omega);rw [Jdh,Jdh] at h;rcases h with (h | h) | h
 .have:=Ja7 h;omega
 .obtain ⟨d,d1,d2⟩:=Jen.mp h;have d1:=Ja4.mp d1;rw [Jb7] at d2;have d3:=Ja7 d2.1;have d4:p.toNat % d = 0:=by simpa using d2.2
  refine absurd ?_ (hd d (by omega) (Zs7 d1));rw [<- ep,<- Int.natCast_emod,d4];rfl
 .have b0:0<=b % p:=Jbr _ (Zj6 p1);have b1:b % p < p:=Jbg _ (Zgy p1);have h:=Jcj.mp h (b % p).toNat (Ja4.mpr (by omega));rw [Jdh] at h;rcases h with h | h
  .have:(b % p).toNat = 0:=by simpa using h
   omega
  .obtain ⟨k,k1,k2⟩:=Jen.mp h;have k1:=Ja4.mp k1;have k2:k * (b % p).toNat % p.toNat = 1:=by simpa using k2
   have k3:(k:Int) * (b % p) % p = 1:=by
    have e:(((b % p).toNat:Nat):Int) = b % p:=Jcr b0;have:((k * (b % p).toNat % p.toNat:Nat):Int) = 1:=by rw [k2]; rfl
    rw [Int.natCast_emod,Int.natCast_mul,e,ep] at this;exact this
   refine ⟨k,?_,Zs7 k1,by rw [emulR] at k3; exact k3⟩;rcases Nat.eq_zero_or_pos k with rfl | h
   .simp at k2
   .exact h
theorem Zpv {p:Int} (hp:Zfi p):PrimeN p.toNat:=by
 have p1:=hp.1;have ep:((p.toNat:Nat):Int) = p:=Jcr (by omega);refine ⟨by omega,λr r0 r1=>?_⟩;obtain ⟨k,k1,kp,kr⟩:=Zu2 (b:=(r:Int)) hp (by rw [Jcs Ze3 (Zs7 r1)]; omega);refine ⟨k,by omega,?_⟩;rw [<- ep,<- Int.natCast_mul,<- Int.natCast_emod] at kr;omega
theorem Zew {p:Int} (hp:GroundP p):∃ (F:Type) (_:Lean.Grind.Field F),FdOk p F:=by
 rcases hp with rfl | hp
 .exact ⟨Rat,inferInstance,fd_zero⟩
 .have:PrimeN p.toNat:=Zpv hp;have h:=Zt2 (n:=p.toNat);rw [Jcr (by have:=hp.1; omega)] at h;exact ⟨Zp p.toNat,inferInstance,h⟩
theorem Zox {a b D:Addr} {xs ys:List V} {fr:List (Str × Nat)} {σ:L2.St} {te:TE} {H1:Hp} {Q:VK} (g:Nat->Int)
  (ha:H1 a = some (.lst xs)) (hb:H1 b = some (.lst ys)) (hlen:ys.length<=xs.length) (hD:H1 D = none) (hn:ys.length<=1000)
  (h:∀ (i:Nat) x y H (Q:VK),xs[i]? = some x->ys[i]? = some y->Same H1 H->(∀ H',Same H H'->Q (.int (g i)) H')->te (some x :: some y :: Zbp fr σ) H Q)
  (hQ:∀ H',Same H1 H'->H' D = some (.lst (((List.range ys.length).map g).map V.int))->Q (.ref D) H'):Zcg (gTup K 2 (Zls (Zb4 0) (Zls (Zb4 1) gNil))) Zhq te (Itz K a b) D (Zgr 2 fr σ) H1 Q:=by
 refine Zrp (xs:=xs) (ys:=ys) (λi vs H=>Same H1 H/\H D = some (.lst vs)/\vs = ((List.range i).map g).map V.int) hlen ⟨Same.new hD,Zab,rfl⟩ (λi vs H _ p=>⟨SqL.of (p.1 _ _ ha),SqL.of (p.1 _ _ hb)⟩) ?_ (λvs H ⟨s,e,hv⟩=>hQ H s (by rw [e,hv]));rintro i x y p vs σ' H hi hx hy hp sh ⟨s,e,rfl⟩;obtain ⟨z1,z2,rfl⟩:=sh.two;have s0:=Same.new (o:=.tup [x,y]) hp;refine ⟨p,_,rfl,SqT.of Zab,rfl,_,_,rfl,_,_,rfl,rfl,?_⟩;simp only [Zhq,Jbi,Jce,Jdf];refine h i x y _ _ hx hy (s.trans s0) λH' s'=>?_;have s1:=s0.trans s';refine Zo0 (ws:=((List.range (i + 1)).map g).map V.int) hi Sh.mk2 (s1 _ _ e) (Zau (by rw [Jab,Jab,Jao]; omega)) ⟨(s.trans s1).upd hD,?_,rfl⟩;rw [Zab,Jc4,Jbe,Jbe];rfl
def Ziz (p:Int) (k wide:Nat) (M:Mv):Prop:=∀ Z done left pl,Zex p k Z M->Sw p Z wide done left pl->∀ t,t<=pl.length->∀ row ∈ Za7 p pl (done ++ left) t,SmallR HB row
structure Red (p:Int) (k wide:Nat) (M M':Mv) (pl:List Nat):Prop where
 ex:∃ Z done left,Zex p k Z M/\Sw p Z wide done left pl/\M'.length = (Za7 p pl (done ++ left) pl.length).length/\∀ i,i < M'.length->All2 (λz x=>IsQ p z (Za2 pl (Za7 p pl (done ++ left) pl.length) i) x) ((Za7 p pl (done ++ left) pl.length).getD i []) (M'.getD i [])
def Zsk (C PL:Addr):L2.Sp:=λvs H Q _=>∃ (g L:Addr) (p:Int) (as:List Addr) (M:Mv) (k W wide:Nat),vs = [.ref g,.ref L,.int wide]/\GAt C H g p/\GroundP p/\RowsB H p k W L as M/\wide<=W/\H PL = some Zos/\Zgd p k wide M/\Ziz p k wide M /\
 ∀ (t F pA:Addr) (rs:List Addr) (M':Mv) (pl:List Nat) H',Same H H'->H' t = some (.tup [.ref F,.ref pA])->H F = none->H pA = none->F ≠ pA->H' pA = some (.lst (pl.map λ(j:Nat)=>V.int j))->H' F = some (.lst (rs.map V.ref))->All2 (RowV H' p) rs M'->(∀ a ∈ rs,H a = none/\a ≠ F/\a ≠ pA)->
  Red p k wide M M' pl->Q (.ref t) H'
theorem ok_red {f:Addr} {fd:FuncData} (F:Fun K "reduced_rows" "reduced_rows" Zby f fd) (T:Txt K mg C) (C_swept:Cal P w K mg base "swept" 7 (Zmg C PL)) (C_cleared:Cal P w K mg base "cleared" 6 (Zj1 C)) (C_Ground_number_F:CalD P w K mg base C "number" 6 (Zg2 C) []):FnOk P w K mg base CX0 8 f fd ["ground","rows","wide"] (Zsk C PL):=by
 have nd:=Ze9.nd;refine F.ok Ze9 (λvs H Q E h=>?_) (λcdv A outer s H vs Q E hr h=>?_)
 .obtain ⟨g,L,p,as,M,k,W,wide,rfl,_⟩:=h;rfl
 .obtain ⟨g,L,p,as,M,k,W,wide,rfl,hg,hp,R,hw,hPL,sw,sb,q⟩:=h;refine ⟨_,((Zbm (Za5 C_swept hr.m rfl ((pv 0)<&>((pv 1)<&>((pv 2)<&>Zaa)))) (@Zcd _ _ _ _ _ 2 rfl (@Zag _ _ _ _ _ (@Zae _ _ 3 _ nd rfl (Or.inr rfl) (Or.inl rfl)) (@Zag _ _ _ _ _ (@Zae _ _ 4 _ nd rfl (Or.inl rfl) (Or.inl rfl)) (@Za3 _) (by rfl)) (by rfl)) (by rfl) (by rfl)))<*>((Zco Ja8 rfl (pi_rvl rfl T.n_reversed ((pe_le rfl rfl T.n_list rfl T.n_enumerate ((pv 4)<&>Zaa))<&>Zaa)) (@Zcd _ _ _ _ _ 2 rfl (@Zag _ _ _ _ _ (@Zae _ _ 5 _ nd rfl (Or.inr rfl) (Or.inl rfl)) (@Zag _ _ _ _ _ (@Zae _ _ 6 _ nd rfl (Or.inr rfl) (Or.inl rfl)) (@Za3 _) (by rfl)) (by rfl)) (by rfl) (by rfl)) (@Zas _ _ _ (Zbm (Za6 (own:=["row"]) (fr:=[("ground",0),("found",3),("at",5),("place",6)]) rfl (Zb0 (by kernel_rfl)) (Zbd (@Zd4 _ _ _ _ _ _ _ _ _ _ Zh5 (pv 3) Zga (@Zd9 _ _ _ (pv 5)))) (λ_ _ _ _=>⟨(@Zae _ _ 0 _ (show (["row","ground","found","at","place"]:List Str).Nodup by decide +kernel) rfl (Or.inl rfl) (Or.inr rfl)),Za1,(Za5 C_cleared hr.m rfl ((pv 1)<&>((pv 0)<&>(((Zd5 K rfl)<|>(pv 2)<||>(pv 3))<&>((pv 4)<&>Zaa)))))⟩)) (Zp0 (pv 3) (@Zd9 _ _ _ (pv 5))))))<*>((Zf9 (i:=7) (own:=["row","place"]) (fr:=[]) rfl (Zb0 (by kernel_rfl)) (Zhe rfl T.n_zip ((pv 3)<&>((pv 4)<&>Zaa))) (λ_ _ _ _=>⟨(@Zfc _ K rfl _ _ _ _ 2 rfl (@Zag _ _ _ _ _ (@Zae _ _ 0 _ (show (["row","place"]:List Str).Nodup by decide +kernel) rfl (Or.inl rfl) (Or.inr rfl)) (@Zag _ _ _ _ _ (@Zae _ _ 1 _ (show (["row","place"]:List Str).Nodup by decide +kernel) rfl (Or.inl rfl) (Or.inr rfl)) (@Za3 _) (by rfl)) (by rfl)) (by rfl) (by rfl)),Za1,((Zd5 K rfl)<|>(pv 0)<||>(pv 1))⟩) nd rfl rfl rfl)<*>((Zdx (Zhm Jbk PySem.F.slot_list_extend PySem.F.type_list_extend Zlh (pv 7) ((Zuu<|>(@Zce _ _ _ _ (Zac<&>Zaa))<&&>(Zfd<|>(Zcj Zb5 rfl T.n_len Jdq ((pv 3)<&>Zaa))<&&>(Zcj Zb5 rfl T.n_len Jdq ((pv 4)<&>Zaa))))<&>Zaa)))<*>(~~~(@Za9 _ _ _ _ _ ((Za6 (own:=["row","lead"]) (fr:=[("ground",0)]) rfl (Zb0 (by kernel_rfl)) (Zhe rfl T.n_zip ((pv 3)<&>((pv 7)<&>Zaa))) (λ_ _ _ _=>⟨(@Zfc _ K rfl _ _ _ _ 2 rfl (@Zag _ _ _ _ _ (@Zae _ _ 0 _ (show (["row","lead","ground"]:List Str).Nodup by decide +kernel) rfl (Or.inl rfl) (Or.inr rfl)) (@Zag _ _ _ _ _ (@Zae _ _ 1 _ (show (["row","lead","ground"]:List Str).Nodup by decide +kernel) rfl (Or.inr rfl) (Or.inl rfl)) (@Za3 _) (by rfl)) (by rfl)) (by rfl) (by rfl)),Za1,(Za6 (own:=["number"]) (fr:=[("ground",2),("lead",1)]) rfl (Zb0 (by kernel_rfl)) (Zhs K rfl (pv 0)) (λ_ _ _ _=>⟨(@Zae _ _ 0 _ (show (["number","ground","lead"]:List Str).Nodup by decide +kernel) rfl (Or.inl rfl) (Or.inr rfl)),Za1,(Zio T.cl_Ground C_Ground_number_F hr.m (pv 1) ((pv 0)<&>((pv 2)<&>Zaa)))⟩))⟩))<&>((pv 4)<&>Zaa)))))))),?_⟩;walk_at "wp";refine ⟨g,L,p,as,M,k,W,wide,rfl,hg,hp,R,hw,hPL,sw,λt F pA rs Z done left pl H1 s1 ht hF hpA nFp ep eF rz nrs IR sw1=>?_⟩;refine ⟨t,rfl,_,SqT.of ht,rfl,_,_,rfl,_,_,rfl,rfl,?_⟩;have p0:=hp.lo;have ml:=R.row.1;have h9:=R.h900;have w9:=R.w900;have rwZ:=Zbo p0 IR R.wd;have I:=sw1.inv p0 rwZ;have zM:=IR.1;have ill:=I.all;have idl:=I.len;have sbA:=sb Z done left pl IR sw1;have plw:∀ j,j < pl.length->pl.getD j 0 < W:=λj hj=>by have:=I.lt j hj; exact Zr4 hw this
  -- list(enumerate(places))
  refine ⟨_,rfl,pA,_,rfl,SqL.of ep,λEL ps H2 s2 fE nE eE pl2 etup=>?_⟩;rw [Jab] at pl2;have pll:pl.length<=900:=by omega
  refine ⟨EL,_,rfl,SqL.of eE,for_rvl (xs:=ps.map V.ref) (λi σ H3=>∃ (v5 v6:Option V) (rs2:List Addr),σ = [some (.ref g),some (.ref L),some (.int wide),some (.ref F),some (.ref pA),v5,v6,none]/\Same H H3/\H3 pA = some (.lst (pl.map λ(j:Nat)=>V.int j))/\H3 EL = some (.lst (ps.map V.ref))/\(∀ (j:Nat) q',ps[j]? = some q'->H3 q' = some (.tup [.int j,.int (pl.getD j 0:Nat)])) /\
    H3 F = some (.lst (rs2.map V.ref))/\All2 (RowZ H3) rs2 (Za7 p pl (done ++ left) i)/\∀ a ∈ rs2,H a = none/\a ≠ F/\a ≠ pA)
   ⟨none,none,rs,rfl,s1.trans s2,s2 _ _ ep,eE,λj q' e=>?_,s2 _ _ eF,rz.mono λ_ _ r=>r.same s2,nrs⟩ (λi σ H3 _ ⟨_,_,_,_,_,_,h,_⟩=>SqL.of h) ?_ ?_⟩
  .have hj:j < pl.length:=by have:=(Jah.mp e).1; exact Ze2 pl2 this
   refine etup j q' _ e ?_;rw [Jad,Jaa hj,Za0 hj];rfl
  .rintro i x σ H3 hi hx ⟨v5,v6,rs2,rfl,sm,ep3,eE3,et3,eF3,rz3,nr3⟩;rw [Jab] at hi hx;have hat:pl.length - 1 - i < ps.length:=by exact oz157 pl2 hi
   rw [show ps.length - 1 - i = pl.length - 1 - i by exact oz20 pl2,Jad,Jaa hat] at hx;cases hx;have hp3:=et3 _ _ (Jaa hat);refine Zt6 λD1 hD1=>?_;walk_at "wp";refine ⟨_,SqT.of hp3,rfl,_,_,rfl,_,_,rfl,rfl,?_⟩;obtain ⟨Fd,_,hFd⟩:=Zew hp;have B:=Sw.back p0 I hFd i (by omega);have bl:=B.len;have pv:=B.piv (pl.length - 1 - i) (by omega);have smB:=sbA i (by omega);have bdef:Za7 p pl (done ++ left) (i + 1) = ((Za7 p pl (done ++ left) i).take (pl.length - 1 - i)).map (λrow=>Zbi p row ((Za7 p pl (done ++ left) i).getD (pl.length - 1 - i) []) (pl.getD (pl.length - 1 - i) 0)) ++ (Za7 p pl (done ++ left) i).drop (pl.length - 1 - i):=rfl;rw [bdef] at hD1;have wk:=plw (pl.length - 1 - i) (by omega);have hatl:pl.length - 1 - i < (Za7 p pl (done ++ left) i).length:=by omega
   generalize pl.length - 1 - i = at' at *;generalize Za7 p pl (done ++ left) i = Ri at *;generalize hk:pl.getD at' 0 = kk at *;have rl3:=rz3.1;have leadm:Ri.getD at' [] ∈ Ri:=Zap hatl;have kz:(Ri.getD at' []).getD kk 0 ≠ 0:=λz=>pv (Zh1 z);have ea:rs2[at']? = some (rs2[at']'(Zhu hatl rl3)):=Jaa _;have rlead:=rz3.2 at' _ _ ea (Jaa hatl);rw [<- Za0 hatl (d:=[])] at rlead;generalize rs2[at']'(Zhu hatl rl3) = aL at *;generalize Ri.getD at' [] = lead at *;have rwl:=B.rw lead leadm;have neF:∀ {b:Addr} {o:HO},H3 b = some o->∀ {D:Addr},H3 D = none->b ≠ D:=λ{b o} e {D} h z=>by rw [z,h] at e; cases e
   refine ⟨_,rfl,_,rfl,_,rfl,F,_,rfl,SqL.of eF3,λS hS=>?_⟩;have sS:=Same.new (o:=.lst (Zlz (rs2.map V.ref) none (some (at':Int)))) hS;have ecut:Zlz (rs2.map V.ref) none (some (at':Int)) = (rs2.take at').map V.ref:=by
    rw [Zrn _ _ Ze3 (by rw [Jab]; exact oz151 hatl rl3),Jau,List.map_take]
   rw [ecut] at sS ⊢;have rzT:All2 (RowZ H3) (rs2.take at') (Ri.take at'):=rz3.take at';refine ⟨S,rfl,⟨_,SqL.of Zab⟩,λD hD=>Zcc (λi' Hc y=>∃ a:Addr,y = .ref a/\RowZ Hc a (Zbi p ((Ri.take at').getD i' []) lead kk)/\H a = none/\a ≠ F/\a ≠ D/\a ≠ pA) (λ⟨a,e,b,c⟩ s=>⟨a,e,b.same s,c⟩) (λ⟨a,e,b,c,d,e',f⟩ hD=>⟨a,e,b.put e',c,d,e',f⟩) Zab hD (by rw [Jab,Jbf]; exact oz68 h9 zM bl rl3) (λi' x H' Q' hx s' ⟨lD,hlD⟩ q'=>?_) (λys H5 s5 e5 hyl hys=>?_)⟩
   .obtain ⟨row,er,a,rfl,rz'⟩:=(Zay rzT).at' hx;have hm:row ∈ Ri:=Jcy (Jae er);have ha:a ∈ rs2:=by
     have:=Jae hx;obtain ⟨b,hb,e⟩:=Jap.mp this;cases e;exact Jcy hb
    have nla:=nr3 a ha;have rw1:=B.rw row hm;have sT:=sS.trans s';refine ⟨_,rfl,_,rfl,_,rfl,_,rfl,F,_,_,_,rfl,rfl,SqL.of (sT _ _ eF3),Zcx Ze3 (by rw [Jau,Jad,ea]; rfl),_,rfl,g,a,aL,p,row,lead,kk,rfl,hg.same (sm.trans sT),hp,rz'.same sT,rlead.same sT,rw1.1.trans rwl.1.symm,by rw [rw1.1]; omega,by rw [rw1.1]; exact wk,kz,smB row hm,smB lead leadm,λa' H6 s6 rz6 fr=>q' _ H6 s6 ⟨a',rfl,?_,?_⟩⟩
    .rw [Zah er]; exact rz6
    .rcases fr with rfl | fr
     .exact ⟨nla.1,nla.2.1,λz=>(by have e1:H3 a' = some _:=rz'; have e2:=sS _ _ e1; rw [z,hD] at e2; cases e2),nla.2.2⟩
     .exact ⟨(sm.trans sT).free fr,λz=>(by rw [z,sT _ _ eF3] at fr; cases fr),λz=>(by rw [z,hlD] at fr; cases fr),λz=>(by rw [z,sT _ _ ep3] at fr; cases fr)⟩
   .rw [Jab,Jbf] at hyl;obtain ⟨bs,rfl,hbs⟩:=Zij (P:=λi' a=>RowZ H5 a (Zbi p ((Ri.take at').getD i' []) lead kk)/\H a = none/\a ≠ F/\a ≠ D/\a ≠ pA) hys;rw [Jab] at hyl;have sT:=sS.trans s5;have eF5:=sT _ _ eF3;have FneD:F ≠ D:=λz=>by have:=sS _ _ eF3; rw [z,hD] at this; cases this
    have FnE:F ≠ EL:=λz=>by rw [<- z,eF] at fE; cases fE
    refine ⟨_,rfl,D,rfl,_,eF5,_,e5,FneD,Ze3,by rw [Jab]; exact oz151 hatl rl3,by rw [Jab,Jab]; exact Jat (show _<=2000 by exact oz36 h9 zM bl rl3 hyl) (by decide),?_⟩;subst hD1;have ed:List.map V.ref bs ++ List.drop ((at':Int)).toNat (rs2.map V.ref) = (bs ++ rs2.drop at').map V.ref:=by rw [Jau,Jbe,Jfl]
    rw [ed];refine ⟨_,_,bs ++ rs2.drop at',rfl,(sm.trans sT).upd hF,by rw [Zal (Jcg nFp)]; exact sT _ _ ep3,by rw [Zal (Jcg FnE)]; exact sT _ _ eE3,λj q' e=>?_,Zab,?_,λa ha=>?_⟩
    .have h1:=sT _ _ (et3 j q' e);rw [Zal (Zqm h1 eF5 (by intro z; cases z))];exact h1
    .refine All2.app (All2.of_get (d:=[]) (by rw [Jab,Jbf]; exact oz14 rl3 hyl) λi' b e=>?_) ((rz3.drop at').monoM λa _ ha r=>?_)
     .have hi':i' < (Ri.take at').length:=by have:=(Jah.mp e).1; rw [Jbf]; exact oz56 rl3 hyl this
      obtain ⟨h1,h2,h3,h4,h5⟩:=hbs i' b e;rw [Zah (show _ = some _ by rw [Jad,Jaa hi']; rfl)];rw [Za0 hi'] at h1;exact h1.put h3
     .exact (r.same sT).put (nr3 a (Jco ha)).2.1
    .rcases Jal.mp ha with ha | ha
     .obtain ⟨i',hi',rfl⟩:=Jas.mp ha;obtain ⟨h1,h2,h3,h4,h5⟩:=hbs i' _ (Jaa hi');exact ⟨h2,h3,h5⟩
     .exact nr3 a (Jco ha)
  .rintro σ H3 ⟨v5,v6,rs2,rfl,sm,ep3,eE3,et3,eF3,rz3,nr3⟩;rw [Jab,pl2] at rz3;obtain ⟨Fd,_,hFd⟩:=Zew hp;have B:=Sw.back p0 I hFd pl.length (Jag _);have bl:=B.len;have smB:=sbA pl.length (Jag _);have ldm:=B.lead;have q9:∀ (t F pA:Addr) (rs:List Addr) (M':Mv) H',Same H H'->H' t = some (.tup [.ref F,.ref pA])->H F = none->H pA = none->F ≠ pA->H' pA = some (.lst (pl.map λ(j:Nat)=>V.int j))->H' F = some (.lst (rs.map V.ref))->All2 (RowV H' p) rs M'->(∀ a ∈ rs,H a = none/\a ≠ F/\a ≠ pA)->
     M'.length = (Za7 p pl (done ++ left) pl.length).length->(∀ i,i < M'.length->All2 (λz x=>IsQ p z (Za2 pl (Za7 p pl (done ++ left) pl.length) i) x) ((Za7 p pl (done ++ left) pl.length).getD i []) (M'.getD i []))->Q (.ref t) H':=λt F pA rs M' H' a1 a2 a3 a4 a5 a6 a7 a8 a9 b1 b2=>q t F pA rs M' pl H' a1 a2 a3 a4 a5 a6 a7 a8 a9 ⟨Z,done,left,IR,sw1,b1,b2⟩
   generalize Za7 p pl (done ++ left) pl.length = Rf at *;have rl3:=rz3.1;have z2:2000<=sizeLine:=by decide
   walk_at "wp";refine ⟨_,rfl,_,rfl,F,pA,rfl,⟨_,SqL.of eF3⟩,⟨_,SqL.of ep3⟩,λD hD=>Zox (λi=>(Rf.getD i []).getD (pl.getD i 0) 0) eF3 ep3 (by rw [Jab,Jab]; omega) hD (by rw [Jab]; exact Zom pll) (λi x y H' Q' hx hy s' q'=>?_) λH4 s4 e4=>?_⟩
   .obtain ⟨row,er,a,rfl,rz'⟩:=(Zay rz3).at' hx;rw [Jad] at hy;cases ey:pl[i]? with
    | none=>rw [ey] at hy; cases hy
    | some k'=>
     rw [ey] at hy;cases hy;have hil:i < pl.length:=(Jah.mp ey).1;have kw:=plw i hil;have ek:pl.getD i 0 = k':=by rw [Jac,ey]; rfl
     have rw1:=B.rw row (Jae er);have q2:=q' H' (Same.refl _);rw [ek,show Rf.getD i [] = row by rw [Jac,er]; rfl] at q2;rw [ek] at kw;have kr:k' < row.length:=by rw [rw1.1]; exact kw
     rw [Za0 kr] at q2;exact ⟨_,rfl,_,rfl,a,_,_,_,rfl,rfl,SqL.of (s' _ _ rz'),Zcx Ze3 (by rw [Jau,Jad,Jaa kr]; rfl),q2⟩
   rw [Jab] at e4;refine ⟨tyL e4,by decide,λq1 hq1=>?_⟩;have s5:=Same.new (o:=.lst [V.int 1]) hq1;refine ⟨_,.inl (SqL.of (s5 _ _ (s4 _ _ eF3))),_,.inl (SqL.of (s5 _ _ (s4 _ _ ep3))),?_⟩;rw [Jab,Jab];refine ⟨q1,_,_,rfl,rfl,Zab,by omega,oz99 h9 zM bl rl3,by show 1 * _<=_; exact oz86 h9 zM bl rl3 z2,λq2 hq2=>?_⟩;have s6:=Same.new (o:=.lst (List.replicate ((rs2.length:Int) - (pl.length:Int)).toNat [V.int 1]).flatten) hq2;have s56:=s5.trans s6;refine ⟨D,q2,_,_,rfl,rfl,s56 _ _ e4,Zab,by rw [Jab,Jab,Jao,Zqw]; show pl.length + _ * 1<=_; exact oz38 h9 zM pll bl rl3 z2,?_⟩;have eL:((List.range pl.length).map λi=>(Rf.getD i []).getD (pl.getD i 0) 0).map V.int ++ (List.replicate ((rs2.length:Int) - (pl.length:Int)).toNat [V.int 1]).flatten = ((List.range rs2.length).map (Za2 pl Rf)).map V.int:=by
    rw [show rs2.length = pl.length + ((rs2.length:Int) - (pl.length:Int)).toNat by exact oz44 ill idl bl rl3];generalize ((rs2.length:Int) - (pl.length:Int)).toNat = d;rw [show ((pl.length + d:Nat):Int) - (pl.length:Int) = d by omega,Jau,List.range_add,Jbe,Jbe];congr 1
    .refine Jdz _ (Jct λi hi=>?_);unfold Za2;rw [if_pos (Ja4.mp hi)]
    .have e1:∀ i ∈ List.range d,Za2 pl Rf (pl.length + i) = 1:=λi _=>by
      unfold Za2;rw [if_neg Zs4]
     have e2:((List.range d).map λx=>pl.length + x).map (Za2 pl Rf) = (List.range d).map λ_=>(1:Int):=by
      rw [List.map_map];exact Jct λi hi=>e1 i hi
     rw [e2];clear e1 e2
     induction d with
     | zero=>rfl
     | succ d ih=>rw [List.replicate_succ',List.flatten_append,ih,Jc4,Jbe,Jbe]; rfl
   rw [eL];have eD:upd (upd (upd H4 q1 (.lst [V.int 1])) q2 (.lst (List.replicate ((rs2.length:Int) - (pl.length:Int)).toNat [V.int 1]).flatten)) D (.lst (((List.range rs2.length).map (Za2 pl Rf)).map V.int)) D = some (.lst (((List.range rs2.length).map (Za2 pl Rf)).map V.int)):=Zab;have nFD:F ≠ D:=λz=>by rw [z,hD] at eF3; cases eF3
   have npD:pA ≠ D:=λz=>by rw [z,hD] at ep3; cases ep3
   have t46:=s4.trans s56;have sm7:Same H (upd (upd (upd H4 q1 (.lst [V.int 1])) q2 (.lst (List.replicate ((rs2.length:Int) - (pl.length:Int)).toNat [V.int 1]).flatten)) D (.lst (((List.range rs2.length).map (Za2 pl Rf)).map V.int))):=(sm.trans t46).upd (sm.free hD);have eF7:upd (upd (upd H4 q1 (.lst [V.int 1])) q2 (.lst (List.replicate ((rs2.length:Int) - (pl.length:Int)).toNat [V.int 1]).flatten)) D (.lst (((List.range rs2.length).map (Za2 pl Rf)).map V.int)) F = some (.lst (rs2.map V.ref)):=by rw [Zal nFD]; exact t46 _ _ eF3
   have ep7:upd (upd (upd H4 q1 (.lst [V.int 1])) q2 (.lst (List.replicate ((rs2.length:Int) - (pl.length:Int)).toNat [V.int 1]).flatten)) D (.lst (((List.range rs2.length).map (Za2 pl Rf)).map V.int)) pA = some (.lst (pl.map λ(j:Nat)=>V.int j)):=by rw [Zal npD]; exact t46 _ _ ep3
   have rz7:All2 (RowZ (upd (upd (upd H4 q1 (.lst [V.int 1])) q2 (.lst (List.replicate ((rs2.length:Int) - (pl.length:Int)).toNat [V.int 1]).flatten)) D (.lst (((List.range rs2.length).map (Za2 pl Rf)).map V.int)))) rs2 Rf:=rz3.mono λa _ r=>(r.same t46).put λz=>by have e1:H3 a = some _:=r; rw [z,hD] at e1; cases e1
   generalize upd (upd (upd H4 q1 (.lst [V.int 1])) q2 (.lst (List.replicate ((rs2.length:Int) - (pl.length:Int)).toNat [V.int 1]).flatten)) D (.lst (((List.range rs2.length).map (Za2 pl Rf)).map V.int)) = H7 at *;obtain ⟨dg,hg0⟩:=hg;refine ⟨_,rfl,_,rfl,F,D,rfl,⟨_,SqL.of eF7⟩,⟨_,SqL.of eD⟩,λN hN=>Zfh (λi Hc y=>∃ (a:Addr) (xs:List Nv),y = .ref a/\RowV Hc p a xs/\All2 (λz x=>IsQ p z (Za2 pl Rf i) x) (Rf.getD i []) xs/\H a = none/\a ≠ N/\a ≠ pA) (λ⟨a,xs,e,b,c⟩ s=>⟨a,xs,e,b.same s,c⟩) (λ⟨a,xs,e,b,c,d,e',f⟩ hD=>⟨a,xs,e,b.put hD e',c,d,e',f⟩) eF7 eD (by simp) hN (by rw [Jab]; exact oz144 h9 zM bl rl3) (λi x y H' Q' hx hy s' ⟨lD,hlD⟩ q'=>?_) λys H8 s8 e8 hyl hys=>?_⟩
   .obtain ⟨row,er,a,rfl,rz'⟩:=(Zay rz7).at' hx;obtain ⟨u,hu,rfl⟩:=Zet hy;have hil:i < Rf.length:=(Jah.mp er).1;rw [Jad,Jav (Zck rl3 hil)] at hu;cases hu;have rw1:=B.rw row (Jae er);have sr:=smB row (Jae er);have eR:Rf.getD i [] = row:=by rw [Jac,er]; rfl
    have ldb:Bt HB (Za2 pl Rf i):=by
     unfold Za2;split
     .rw [eR]; exact sr.at _
     .exact Zaz (by decide) (by decide)
    have ld:=ldm i;have r0:=s' _ _ rz';refine ⟨_,rfl,a,rfl,⟨_,SqL.of r0⟩,λD4 hD4=>Zcc (λj Hc v=>∃ x,NumV Hc p v x/\IsQ p (row.getD j 0) (Za2 pl Rf i) x) (λ⟨x,a,b⟩ s=>⟨x,a.same s,b⟩) (λ⟨x,a,b⟩ hD=>⟨x,a.put hD,b⟩) r0 hD4 (by rw [Jab,rw1.1]; exact Zom w9) (λj v Hc Qc hv sc _ qc=>?_) λvs Hc sc ec vl vn=>?_⟩
    .obtain ⟨z,ez,rfl⟩:=Zet hv;have hgc:=(s'.trans sc) _ _ (sm7 _ _ hg0);refine ⟨_,rfl,g,dg,_,rfl,hgc,Zrh _ (by decide +kernel),_,rfl,_,rfl,g,p,z,Za2 pl Rf i,rfl,⟨dg,hgc⟩,hp,(sr z (Jae ez)).le (by decide),ldb.le (by decide),λh0 z0=>ld (by rw [z0,Zev]),λh0 z0=>ld (by rw [<- hFd.modF h0,z0,Zev]),λv x Hd sd nv iq=>qc v Hd sd ⟨x,nv,?_⟩⟩;rw [Zah ez];exact iq
    .rw [Jab] at vl;obtain ⟨xs,hxs⟩:=All2.pick (P:=λ(vi:V × Nat) x=>NumV Hc p vi.1 x/\IsQ p (row.getD vi.2 0) (Za2 pl Rf i) x) (xs:=vs.zipIdx) λvi hvi=>by
      obtain ⟨v,j⟩:=vi;exact vn j v (Jdi.mp hvi)
     have xl:xs.length = vs.length:=by have:=hxs.1; rw [Jfa] at this; exact oz19 this
     have hat:∀ (j:Nat) v x,vs[j]? = some v->xs[j]? = some x->NumV Hc p v x/\IsQ p (row.getD j 0) (Za2 pl Rf i) x:=λj v x e1 e2=>hxs.2 j (v,j) x (by rw [Jep,e1]; simp) e2;refine q' _ Hc sc ⟨D4,xs,rfl,⟨vs,ec,oz19 xl,λj v x e1 e2=>(hat j v x e1 e2).1⟩,?_,(sm7.trans s').free hD4,(Zaj hlD hD4).symm,λz=>by rw [z,s' _ _ ep7] at hD4; cases hD4⟩;rw [eR];refine ⟨oz22 vl xl,λj z x e1 e2=>?_⟩;have hj:j < vs.length:=by have:=(Jah.mp e2).1; exact Ze2 xl this
     have:=(hat j _ x (Jaa hj) e2).2;rwa [Zah e1] at this
   .rw [Jab] at hyl;obtain ⟨bs,rfl,hbs⟩:=Zij (P:=λi a=>∃ xs,RowV H8 p a xs/\All2 (λz x=>IsQ p z (Za2 pl Rf i) x) (Rf.getD i []) xs/\H a = none/\a ≠ N/\a ≠ pA) λi y e=>let ⟨a,xs,h1,h2⟩:=hys i y e; ⟨a,h1,xs,h2⟩;rw [Jab] at hyl;obtain ⟨M',hM'⟩:=All2.pick (P:=λ(ai:Addr × Nat) xs=>RowV H8 p ai.1 xs/\All2 (λz x=>IsQ p z (Za2 pl Rf ai.2) x) (Rf.getD ai.2 []) xs/\H ai.1 = none/\ai.1 ≠ N/\ai.1 ≠ pA) (xs:=bs.zipIdx) λai hai=>by
     obtain ⟨a,i⟩:=ai;exact hbs i a (Jdi.mp hai)
    have mlen:M'.length = bs.length:=by have:=hM'.1; rw [Jfa] at this; exact oz19 this
    have mat:∀ (i:Nat) (a:Addr) xs,bs[i]? = some a->M'[i]? = some xs->RowV H8 p a xs/\All2 (λz x=>IsQ p z (Za2 pl Rf i) x) (Rf.getD i []) xs/\H a = none/\a ≠ N/\a ≠ pA:=λi a xs e1 e2=>hM'.2 i (a,i) xs (by rw [Jep,e1]; simp) e2;refine ⟨by decide,λt' ht'=>?_⟩;have s9:=Same.new (o:=.tup [V.ref N,V.ref pA]) ht';refine q9 t' N pA bs M' _ ((sm7.trans s8).trans s9) Zab (sm7.free hN) hpA (λz=>by rw [z,ep7] at hN; cases hN) ((s8.trans s9) _ _ ep7) (s9 _ _ e8) ⟨oz19 mlen,λi a xs e1 e2=>(mat i a xs e1 e2).1.same s9⟩ (λa ha=>?_) (oz26 rl3 hyl mlen) (λi hi=>?_)
    .obtain ⟨i,hi,rfl⟩:=Jas.mp ha;exact (mat i _ _ (Jaa hi) (Jaa (show i < M'.length by exact Zck mlen hi))).2.2
    .have:=(mat i _ _ (Jaa (show i < bs.length by exact Ze2 mlen hi)) (Jaa hi)).2.1;rw [Za0 hi];exact this
theorem Zmt {p:Int} (hp:GroundP p) (h:p ≠ 0):(1:Int) % p ≠ 0:=by
 rcases hp with h' | h'
 .exact absurd h' h
 .rw [Jcs (by decide) h'.1];decide
theorem Zm3 {p k:Int} {x:Int × Int} (hp:GroundP p) (h:IsQ p k 1 x):x = Zgc p k:=by
 obtain ⟨F,_,hF⟩:=Zew hp;refine hF.inj h.is (Zdd hp.lo) ?_;rw [h.fd F hF,hF.intF,Zeo];have:=Zo1 (F:=F)
 grind
theorem Zkb {p:Int} (hp:GroundP p):Zgc p 1 = (1,1):=by
 unfold Zgc;split
 .rfl
 .rw [Jcs (by decide)];rcases hp with h | ⟨h,_⟩ <;> omega
theorem Zc8 (p:Int):(Zu3 p).lookup ("number" : Str) = none:=Zrh _ (by decide +kernel)
theorem Zss {H:Hp} {p:Int} {rs:List Addr} {M:Mv} {k:Nat} {a:Addr} {us:List V} {o:HO} {row:List Nv} (h:All2 (RowV H p) rs M) (nds:rs.Nodup) (e:rs[k]? = some a) (ha:H a = some (.lst us)) (hr:RowV (upd H a o) p a row):All2 (RowV (upd H a o) p) rs (M.set k row):=by
 have hk:k < rs.length:=(Jah.mp e).1;have ek:rs[k] = a:=(Jah.mp e).2;refine ⟨by rw [Jay]; exact h.1,λj c y f1 f2=>?_⟩;rw [Jcu] at f2;by_cases hjk:k = j
 .subst hjk;rw [e] at f1;cases f1;rw [if_pos rfl] at f2;split at f2
  .cases f2;exact hr
  .cases f2
 .rw [if_neg hjk] at f2;refine (h.2 j c y f1 f2).put ha λz=>hjk ?_;have hj:j < rs.length:=(Jah.mp f1).1;have e':rs[j] = rs[k]:=by rw [ek,<- z]; exact (Jah.mp f1).2
  rcases Jff k j with h | h | h
  .exact absurd e'.symm (Jbn.mp nds k j hk hj h)
  .exact h
  .exact absurd e' (Jbn.mp nds j k hj hk h)
theorem Zql {lo:Int} {n:Nat} {D:Addr} {fr:List (Str × Nat)} {σ:L2.St} {te:TE} {H1:Hp} {Q:VK} {p:Int} (M:Nat->List Nv) (hD:H1 D = none) (hn:n<=1000)
  (h:∀ (i:Nat) H (Q:VK),i < n->Same H1 H->(∀ a H',H a = none->Same H H'->RowV H' p a (M i)->Q (.ref a) H')->te (some (.int (lo + (i:Nat))) :: Zbp fr σ) H Q)
  (hQ:∀ (rs:List Addr) H',Same H1 H'->H' D = some (.lst (rs.map V.ref))->All2 (RowV H' p) rs ((List.range n).map M)->D ∉ rs->rs.Nodup->(∀ a ∈ rs,H1 a = none)->Q (.ref D) H'):Zcg (Zb4 0) Zhq te (Itr lo n) D (Zgr 1 fr σ) H1 Q:=by
 refine Zgo (n:=n) (λi vs H=>∃ rs:List Addr,vs = rs.map V.ref/\Same H1 H/\H D = some (.lst (rs.map V.ref))/\All2 (RowV H p) rs ((List.range i).map M)/\D ∉ rs/\rs.Nodup/\∀ a ∈ rs,H1 a = none) ⟨[],rfl,Same.new hD,Zab,All2.nil,by simp,by simp,by simp⟩ ?_ (λvs H ⟨rs,e,a,b,c,d,f,g⟩=>hQ rs H a b c d f g);rintro i x vs σ' H hi rfl sh ⟨rs,rfl,s,e,al,nD,nd,fr⟩;obtain ⟨z,rfl⟩:=sh.one;simp only [Zf6,Zb4,Zhq,Jbi,Jdf];refine h i H _ hi s λa H' ha s' rv=>?_;have nDa:D ≠ a:=Zaj e ha;have na:a ∉ rs:=λz=>by
  obtain ⟨j,hj,ej⟩:=Jas.mp z;obtain ⟨_,_,us,hu,_⟩:=al.at' (Jaa hj);rw [ej,ha] at hu;cases hu
 have l1:=al.1;rw [Jab,Jao] at l1;refine Zo0 (ws:=rs.map V.ref ++ [.ref a]) hi Sh.mk1 (s' _ _ e) (Zau (by rw [Jab]; exact Zmq hn hi l1)) ⟨rs ++ [a],Zcp _ _,(s.trans s').upd hD,by rw [Zab,Zcp],?_,λz=>?_,?_,λb hb=>?_⟩
 .rw [Jc4,Jbe];exact (al.monoM λc x hc k=>(k.same s').put (s' _ _ e) (λz=>nD (z ▸ hc))).app (All2.one (rv.put (s' _ _ e) nDa.symm))
 .rcases Jal.mp z with h | h
  .exact nD h
  .exact nDa (Ja1.mp h)
 .rw [List.nodup_append];exact ⟨nd,by simp,λx hx y hy e=>na (by rw [<- Ja1.mp hy,<- e]; exact hx)⟩
 .rcases Jal.mp hb with h | h
  .exact fr b h
  .rw [Ja1.mp h]; exact s.free ha
theorem Zu1 {n:Nat} {k:Int} (h0:0<=k) (h1:k.toNat < n):ixN n k = some k.toNat:=by
 unfold ixN;simp [h0];omega
theorem Zen (p:Int):Zgc p 0 = (0,1):=by
 unfold Zgc;split
 .rfl
 .rw [Int.zero_emod]
theorem rep1 (n:Nat) (v:V):(List.replicate n [v]).flatten = List.replicate n v:=by
 induction n with
 | zero=>rfl
 | succ n ih=>rw [Jcq,Jd1,ih,Jcq]; rfl
theorem small24 {n:Nat} (h:n<=24):n<=sizeLine:=Jcd (Zau (by omega))
abbrev zR (n:Nat):List Nv:=List.replicate n (0,1)
abbrev zM (h n:Nat):Mv:=(List.range h).map λ_=>zR n
def Zsm (C:Addr):L2.Sp:=λvs H Q _=>∃ (g:Addr) (p hh wd:Int),vs = [.ref g,.int hh,.int wd]/\GAt C H g p/\GroundP p/\0<=hh/\hh<=24/\0<=wd/\wd<=24 /\
 ∀ (t r:Addr) (rs:List Addr) H',Same H H'->New H t r rs->rs.Nodup->TabV H' p hh wd t r rs (zM hh.toNat wd.toNat)->Q (.ref t) H'
theorem ok_nou {f:Addr} {fd:FuncData} (F:Fun K "noughts" "noughts" Zef f fd) (T:Txt K mg C) (C_Ground_number:CalD P w K mg base C "number" 6 (Zg2 C) [.int 1]):FnOk P w K mg base CX0 7 f fd ["ground","high","wide"] (Zsm C):=by
 have nd:=Zji.nd;refine F.ok Zji (λvs H Q E h=>?_) (λcdv A outer s H vs Q E hr h=>?_)
 .obtain ⟨g,p,hh,wd,rfl,_⟩:=h;rfl
 .obtain ⟨g,p,hh,wd,rfl,⟨dg,hg0⟩,hp,h0,h24,w0,w24,q⟩:=h;refine ⟨_,(~~~(@Za9 _ _ _ _ _ ((pv 1)<&>((pv 2)<&>((Za6 (own:=["row"]) (fr:=[("ground",0),("wide",2)]) rfl (Zb0 (by kernel_rfl)) (Zgb rfl T.n_range ((pv 1)<&>Zaa)) (λ_ _ _ _=>⟨(@Zae _ _ 0 _ (show (["row","ground","wide"]:List Str).Nodup by decide +kernel) rfl (Or.inl rfl) (Or.inr rfl)),Za1,(Zuu<|>(@Zce _ _ _ _ ((Zio T.cl_Ground C_Ground_number hr.m (pv 1) (Zac<&>Zaa))<&>Zaa))<&&>(pv 2))⟩))<&>Zaa))))),?_⟩;walk_at "wp";refine ⟨_,rfl,hh,rfl,by omega,by omega,λD hD=>Zql (p:=p) (λ_=>zR wd.toNat) hD (by omega) (λi H' Q' hi s' q'=>?_) λrs H3 s3 hD3 al3 nD nds fr=>?_⟩
  .have wsz:1 * wd.toNat<=sizeLine:=small24 (by omega);refine ⟨_,rfl,g,dg,_,rfl,s' _ _ hg0,Zc8 p,g,p,0,1,rfl,⟨dg,s' _ _ hg0⟩,hp,Zaz (by decide) (by decide),Zaz (by decide) (by decide),λ_=>by decide,Zmt hp,λnv nx H2 s2 hnv iq=>⟨by show 1<=sizeLine; decide,λo1 ho1=>?_⟩⟩;rw [Zm3 hp iq,Zen] at hnv;have s5:=Same.new (o:=.lst [nv]) ho1;refine ⟨_,rfl,o1,_,_,rfl,rfl,Zab,by omega,by omega,wsz,λo2 ho2=>?_⟩;rw [rep1];have s6:=Same.new (o:=.lst (List.replicate wd.toNat nv)) ho2;have t6:=s5.trans s6;exact q' o2 _ ((s2.trans s5).free ho2) (s2.trans t6) ⟨_,Zab,All2.rep (hnv.same t6) _⟩
  .refine ⟨by decide,λt ht=>?_⟩;have s5:=Same.new (o:=.tup [V.int hh,V.int wd,V.ref D]) ht;exact q t D rs _ (s3.trans s5) ⟨s3.free ht,hD,fr⟩ nds ⟨Zab,s5 _ _ hD3,al3.mono λ_ _ q=>q.same s5,nD⟩
abbrev eR (n i:Nat):List Nv:=(zR n).set i (1,1)
def Zr5 (n k:Nat):Mv:=(List.range n).map λi=>if i < k then eR n i else zR n
abbrev Zcq (n:Nat):Mv:=(List.range n).map λi=>eR n i
theorem Ztq (n:Nat):Zr5 n n = Zcq n:=by
 unfold Zr5;refine Jct λj hj=>?_;rw [if_pos (Ja4.mp hj)]
theorem Zqp (n:Nat):Zr5 n 0 = zM n n:=by
 unfold Zr5;refine Jct λj hj=>?_;rw [if_neg (by omega)]
theorem Ztp (n k:Nat):(Zr5 n k).set k (eR n k) = Zr5 n (k + 1):=by
 unfold Zr5;apply Jcm;intro j;rw [Jcu];by_cases hij:k = j
 .subst hij;rw [if_pos rfl];by_cases hn:k < n
  .rw [if_pos (by simpa using hn),Jad,Jav hn];simp
  .rw [if_neg (by simpa using hn),Jad,Jaj (by simpa using hn)];rfl
 .rw [if_neg hij,Jad,Jad];by_cases hn:j < n
  .rw [Jav hn];show some (if j < k then eR n j else zR n) = some (if j < k + 1 then eR n j else zR n);by_cases h1:j < k
   .rw [if_pos h1,if_pos (Zfw h1)]
   .rw [if_neg h1,if_neg (by omega)]
  .rw [Jaj (by simpa using hn)];rfl
def spPl (C:Addr):L2.Sp:=λvs H Q _=>∃ (g:Addr) (p n:Int),vs = [.ref g,.int n]/\GAt C H g p/\GroundP p/\0<=n/\n<=24 /\
 ∀ (t r:Addr) (rs:List Addr) H',Same H H'->New H t r rs->TabV H' p n n t r rs (Zcq n.toNat)->Q (.ref t) H'
theorem ok_pl {f:Addr} {fd:FuncData} (F:Fun K "plain" "plain" Zgw f fd) (T:Txt K mg C) (C_noughts:Cal P w K mg base "noughts" 7 (Zsm C)) (C_Ground_number:CalD P w K mg base C "number" 6 (Zg2 C) [.int 1]):FnOk P w K mg base CX0 8 f fd ["ground","many"] (spPl C):=by
 have nd:=Znk.nd;refine F.ok Znk (λvs H Q E h=>?_) (λcdv A outer s H vs Q E hr h=>?_)
 .obtain ⟨g,p,n,rfl,_⟩:=h;rfl
 .obtain ⟨g,p,n,rfl,hg,hp,n0,n24,q⟩:=h;refine ⟨_,((Zbm (Za5 C_noughts hr.m rfl ((pv 0)<&>((pv 1)<&>((pv 1)<&>Zaa)))) (@Zcd _ _ _ _ _ 3 rfl (@Zag _ _ _ _ _ (@Zae _ _ 2 _ nd rfl (Or.inl rfl) (Or.inl rfl)) (@Zag _ _ _ _ _ (@Zae _ _ 3 _ nd rfl (Or.inl rfl) (Or.inl rfl)) (@Zag _ _ _ _ _ (@Zae _ _ 4 _ nd rfl (Or.inl rfl) (Or.inl rfl)) (@Za3 _) (by rfl)) (by rfl)) (by rfl)) (by rfl) (by rfl)))<*>((Zco Ja8 rfl (Zgb rfl T.n_range ((pv 1)<&>Zaa)) (@Zae _ _ 5 _ nd rfl (Or.inl rfl) (Or.inl rfl)) (@Zas _ _ _ (Zbm (Zio T.cl_Ground C_Ground_number hr.m (pv 0) (Zac<&>Zaa)) (Zf4 (Zat<|>(pv 4)<||>(pv 5)) (pv 5) Zc6))))<*>(~~~(@Za9 _ _ _ _ _ ((pv 2)<&>((pv 3)<&>((pv 4)<&>Zaa))))))),?_⟩;walk_at "wp";refine ⟨g,p,n,n,rfl,hg,hp,n0,n24,n0,n24,λt r rs H1 s1 nw nds tb=>?_⟩;refine ⟨t,rfl,_,SqT.of tb.tup,rfl,_,_,rfl,_,_,rfl,_,_,rfl,rfl,?_⟩;have rl:=tb.row.1;rw [Jab,Jao] at rl;refine ⟨_,rfl,n,rfl,by omega,by omega,Zch (λi σ H3=>∃ v5:Option V,σ = [some (.ref g),some (.int n),some (.int n),some (.int n),some (.ref r),v5]/\Same H H3/\H3 r = some (.lst (rs.map V.ref))/\All2 (RowV H3 p) rs (Zr5 n.toNat i)) ⟨none,rfl,s1,tb.lst,by rw [Zqp]; exact tb.row⟩ ?_ ?_⟩
  .rintro i σ H3 hi ⟨v5,rfl,s3,h3,a3⟩;walk_at "wp";obtain ⟨dg,hg0⟩:=hg.same s3;refine ⟨dg,_,hg0,Zc8 p,g,p,1,1,rfl,⟨dg,hg0⟩,hp,Zaz (by decide) (by decide),Zaz (by decide) (by decide),λ_=>by decide,Zmt hp,λnv nx H4 s4 hnv iq=>?_⟩;rw [Zm3 hp iq,Zkb hp] at hnv;have hirs:i < rs.length:=by omega
   have e1:rs[i]? = some rs[i]:=Jaa hirs;have a4:All2 (RowV H4 p) rs (Zr5 n.toNat i):=a3.mono λ_ _ k=>k.same s4;obtain ⟨row,er,us,hu1,hu2⟩:=a4.at' e1;have erow:row = zR n.toNat:=by
    unfold Zr5 at er;rw [Jad,Jav hi] at er;have:(if i < i then eR n.toNat i else zR n.toNat) = row:=by simpa using er
    rw [<- this,if_neg (by omega)]
   subst erow;have ul:=hu2.1;rw [Ja9] at ul;have nri:r ≠ rs[i]:=λz=>tb.nin (by rw [z]; exact Jaw hirs);refine ⟨_,SqL.of (s4 _ _ h3),_,Zcx (by omega) (by rw [show ((0:Int) + (i:Int)).toNat = i by exact oz47,Jad,e1]; rfl),_,rfl,us,hu1,i,?_,(s3.trans s4).upd (nw.rs _ (Jaw hirs)),by rw [Zal nri]; exact s4 _ _ h3,?_⟩
   .rw [Zu1 (by omega) (by omega)];congr 1;exact oz47
   .rw [<- Ztp];refine Zss a4 nds e1 hu1 ⟨_,Zab,?_⟩;exact (hu2.mono λ_ _ q=>q.put hu1).set _ (hnv.put hu1)
  .rintro σ H3 ⟨v5,rfl,s3,h3,a3⟩;walk_at "wp";rw [Ztq] at a3;refine ⟨by decide,λt' ht'=>?_⟩;have s5:=Same.new (o:=.tup [V.int n,V.int n,V.ref r]) ht';exact q t' r rs _ (s3.trans s5) ⟨s3.free ht',nw.r,nw.rs⟩ ⟨Zab,s5 _ _ h3,a3.mono λ_ _ q=>q.same s5,tb.nin⟩
end
end Pf
namespace Pf
open PySem L2 L3 PyProof.Rows
section
variable {p:Int} {F:Type} [Lean.Grind.Field F]
def vN (xs:List Nv):Nat->F:=λj=>nm (xs.getD j (0,1))
theorem Zfe:(nm ((0,1):Nv):F) = 0:=by
 unfold nm;rw [Zev,Zeo];have:=Zo1 (F:=F)
 grind
theorem Zi4 {xs:List Nv} {j:Nat} (h:xs.length<=j):(vN xs j:F) = 0:=by
 unfold vN;rw [Jac,Jaj h];exact Zfe
theorem vN_in {xs:List Nv} {j:Nat} {x:Nv} (h:xs[j]? = some x):(vN xs j:F) = nm x:=by
 unfold vN;rw [Jac,h];rfl
theorem Ziy {α:Type} {f:α->Nat->F} {Z:List α} {i:Nat} {d:α} (h:i < Z.length):at' (Z.map f) i = f (Z.getD i d):=by
 show (Z.map f).getD i zv = _;rw [Jac,Jad,Jaa h,Jac,Jaa h];rfl
theorem Zog {L L':List (Nat->F)} (hl:L.length = L'.length) (h:∀ i,i < L.length->∃ c:F,c ≠ 0/\∀ j,at' L i j = c * at' L' i j):SpEq L L':=by
 refine ⟨λv hv=>?_,λv hv=>?_⟩
 .obtain ⟨i,hi,e⟩:=Zbs hv zv;obtain ⟨c,_,hc⟩:=h i hi;have e1:v = λj=>c * at' L' i j:=by rw [<- e]; exact funext hc
  rw [e1];exact Sp.smul c (.mem (Zbz (Ze2 hl hi)))
 .obtain ⟨i,hi,e⟩:=Zbs hv zv;obtain ⟨c,c0,hc⟩:=h i (Zck hl hi);have e1:v = λj=>(1 / c) * at' L i j:=by
   rw [<- e];refine funext λj=>?_;rw [hc j];show at' L' i j = _
   grind
  rw [e1];exact Sp.smul _ (.mem (Zbz (Zck hl hi)))
theorem wr_eq (hF:FdOk p F) {xs:List Nv} {zs:List Int} {b:Int} (h:WRz p xs zs b) (hx:∀ x ∈ xs,Isn p x) (j:Nat):(vz zs j:F) = ic b * vN xs j:=by
 have e:=h.eq j;have e2:(ic (zs.getD j 0):F) * ic (xs.getD j (0,1)).2 = ic (xs.getD j (0,1)).1 * ic b:=by rw [<- Zcf,<- Zcf,e]
 have b2:(ic (xs.getD j (0,1)).2:F) ≠ 0:=by
  by_cases hj:j < xs.length
  .rw [Za0 hj];exact hF.bot (hx _ (Jaw hj))
  .rw [Jac,Jaj (Zhf hj)];show (ic 1:F) ≠ 0;rw [Zeo];exact Zo1
 unfold vz vN nm;generalize (ic (zs.getD j 0):F) = u at *;generalize (ic (xs.getD j (0,1)).1:F) = v at *;generalize (ic (xs.getD j (0,1)).2:F) = t at *
 grind
theorem wr_b (hF:FdOk p F) {xs:List Nv} {zs:List Int} {b:Int} (h:WRz p xs zs b):(ic b:F) ≠ 0:=by
 by_cases hp:p = 0
 .exact hF.ne0 (.inl hp) (by have:=h.pos; omega)
 .rw [h.one hp,Zeo];exact Zo1
theorem int_sp (hF:FdOk p F) {k:Nat} {Z:List (List Int)} {M:Mv} (h:Zex p k Z M) (hM:∀ xs ∈ M,∀ x ∈ xs,Isn p x):SpEq (F:=F) (Z.map vz) (M.map vN):=by
 have hl:=h.1;refine Zog (by rw [Jab,Jab]; exact hl) λi hi=>?_;rw [Jab] at hi;obtain ⟨ws,b,w1,_,e⟩:=h.2 i _ _ (Jaa hi) (Jaa (show i < M.length by exact Ze2 hl hi));rw [Ziy (d:=[]) hi,Ziy (d:=[]) (show i < M.length by exact Ze2 hl hi),Za0 hi,Za0 (show i < M.length by exact Ze2 hl hi),e];obtain ⟨c,c0,hc⟩:=Zo8 hF ws;refine ⟨ic b / c,?_,λj=>?_⟩
 .have:=wr_b hF w1
  grind
 .have e1:=hc j;rw [wr_eq hF w1 (hM _ (Jaw _)) j] at e1;generalize (vz (Zd0 p ws) j:F) = y at *
  grind
theorem Red.rr {k W wide:Nat} {M M':Mv} {pl:List Nat} (hp:GroundP p) (hF:FdOk p F) (R:Red p k wide M M' pl) (wd:∀ xs ∈ M,xs.length = W) (hM:∀ xs ∈ M,∀ x ∈ xs,Isn p x):
  RR (M'.map (vN (F:=F))) wide pl.length (λi=>pl.getD i 0)/\SpEq (M'.map (vN (F:=F))) (M.map vN):=by
 obtain ⟨Z,done,left,IR,sw,ml,al⟩:=R.ex;have p0:=hp.lo;have I:=sw.inv p0 (Zbo p0 IR wd);have B:=Sw.back p0 I hF pl.length (Jag _);have bl:=B.len;have zM:=IR.1;have h1:=I.all;have h2:=I.len;obtain ⟨r1,r2⟩:=B.rr I.asc I.lt (by omega) (L:=M'.map vN) (by rw [Jab]; omega) λi hi=>by
  have hi':i < M'.length:=by exact oz64 ml bl hi
  rw [Ziy (d:=[]) hi'];have a:=al i hi';refine funext λj=>?_;by_cases hj:j < (M'.getD i []).length
  .have e1:(M'.getD i [])[j]? = some (M'.getD i [])[j]:=Jaa hj;obtain ⟨z,ez,iq⟩:=a.at e1;rw [vN_in e1,iq.fd F hF];show _ = ic (((Za7 p pl (done ++ left) pl.length).getD i []).getD j 0) / _;rw [Zah ez]
  .rw [Zi4 (Zhf hj)];show _ = ic (((Za7 p pl (done ++ left) pl.length).getD i []).getD j 0) / _;rw [Jac,Jaj (by have:=a.1; omega)];show 0 = ic 0 / _;rw [Zev];have:=B.lead i
   grind
 exact ⟨r1,r2.trans (int_sp hF IR hM)⟩
end
noncomputable def Zdh (p:Int) (k W wide:Nat):Nat:=if p = 0 then ((W + 1) * k + 1) * 2 ^ (2 * wide) else 7
theorem Zfl {p:Int} {W:Nat} {row:List Int} (h0:p ≠ 0) (p97:p<=97) (h:Rw p W row):SmallR 7 row:=λz hz=>by
 rcases h.2 z hz with e | ⟨e1,e2⟩
 .exact absurd e h0
 .exact Zaz (Jag _) (by omega)
theorem Zcu {p:Int} {k W:Nat} {Z:List (List Int)} {M:Mv} (hp:GroundP p) (h7:7<=k) (h:Zex p k Z M) (wd:∀ xs ∈ M,xs.length = W):∀ row ∈ Z,SmallR ((W + 1) * k) row:=λrow hr=>by
 obtain ⟨i,hi,e⟩:=Jas.mp hr;obtain ⟨xs,ex,ws,b,w1,sm,rfl⟩:=h.at' (i:=i) (x:=row) (by rw [Jaa hi,e]);rw [wd xs (Jae ex)] at sm;exact Zjb hp.lo hp.hi (by rw [Jb6]; exact oz94 h7) λ_=>sm
theorem Zin (m a b:Nat):m * 2 ^ a * 2 ^ b = m * 2 ^ (a + b):=by rw [Jfj,Jdm]
theorem Sw.pl_le {p:Int} {W:Nat} {Z:List (List Int)} {wide:Nat} {done left:List (List Int)} {pl:List Nat} (I:SwI p W Z wide done left pl):pl.length<=wide:=by
 -- the places rise and stay below wide
 have key:∀ i,i < pl.length->i<=pl.getD i 0:=by
  intro i
  induction i with
  | zero=>intro _; omega
  | succ i ih=>
   intro h;have a:=ih (by omega);have b:=I.asc i (i + 1) (by omega) h;omega
 by_cases h:pl.length = 0
 .omega
 .have a:=key (pl.length - 1) (by omega);have b:=I.lt (pl.length - 1) (by omega);omega
theorem Zsi {p:Int} {k W wide:Nat} {M:Mv} (hp:GroundP p) (h7:7<=k) (wd:∀ xs ∈ M,xs.length = W) (hb:Zdh p k W wide<=HB):Zgd p k wide M/\Ziz p k wide M:=by
 have p0:=hp.lo;have p97:=hp.hi;by_cases h0:p = 0
 .unfold Zdh at hb;rw [if_pos h0] at hb;have n7:7<=(W + 1) * k:=by rw [Jb6]; exact oz94 h7
  have mono:∀ j,j<=2 * wide->((W + 1) * k + 1) * 2 ^ j - 1<=HB:=λj hj=>by
   have:((W + 1) * k + 1) * 2 ^ j<=((W + 1) * k + 1) * 2 ^ (2 * wide):=Jaz (Jag _) (Jbh (by decide) hj);omega
  constructor
  .intro Z IR j done left pl hj sw row hr;exact (sw.dbl p0 p97 n7 (Zcu hp h7 IR wd) row hr).le (mono j (by omega))
  .intro Z done left pl IR sw t ht row hr;have I:=sw.inv p0 (Zbo p0 IR wd);have hpl:=Sw.pl_le I;have s1:=sw.dbl p0 p97 n7 (Zcu hp h7 IR wd);have pos:0 < ((W + 1) * k + 1) * 2 ^ wide:=Jey (by omega) (Jbj _);have b7:7<=((W + 1) * k + 1) * 2 ^ wide - 1:=by
    have:((W + 1) * k + 1) * 1<=((W + 1) * k + 1) * 2 ^ wide:=Jaz (Jag _) (Jbj _);exact oz93 n7 this
   have s2:=Zhy (pl:=pl) p0 p97 b7 s1 t row hr;refine s2.le ?_;rw [show ((W + 1) * k + 1) * 2 ^ wide - 1 + 1 = ((W + 1) * k + 1) * 2 ^ wide by exact oz34 pos,Zin];exact mono _ (by omega)
 .constructor
  .intro Z IR j done left pl hj sw row hr;exact (Zfl h0 p97 ((sw.inv p0 (Zbo p0 IR wd)).rw row hr)).le (by decide)
  .intro Z done left pl IR sw t ht row hr;obtain ⟨F,_,hF⟩:=Zew hp;have I:=sw.inv p0 (Zbo p0 IR wd);exact (Zfl h0 p97 ((Sw.back p0 I hF t ht).rw row hr)).le (by decide)
theorem Red.good {p:Int} {k W wide:Nat} {M M':Mv} {pl:List Nat} (hp:GroundP p) (h7:7<=k) (R:Red p k wide M M' pl) (wd:∀ xs ∈ M,xs.length = W):M'.length = M.length/\(∀ xs ∈ M',xs.length = W)/\∀ xs ∈ M',Zbc p (Zdh p k W wide) xs:=by
 obtain ⟨Z,done,left,IR,sw,ml,al⟩:=R.ex;have p0:=hp.lo;have p97:=hp.hi;obtain ⟨F,_,hF⟩:=Zew hp;have I:=sw.inv p0 (Zbo p0 IR wd);have B:=Sw.back p0 I hF pl.length (Jag _);have bl:=B.len;have zM:=IR.1;have n7:7<=Zdh p k W wide:=by
  unfold Zdh;split
  .have:((W + 1) * k + 1) * 1<=((W + 1) * k + 1) * 2 ^ (2 * wide):=Jaz (Jag _) (Jbj _);have:7<=(W + 1) * k:=by rw [Jb6]; exact oz94 h7
   omega
  .exact Jag _
 have sm:∀ row ∈ Za7 p pl (done ++ left) pl.length,SmallR (Zdh p k W wide) row:=λrow hr=>by
  by_cases h0:p = 0
  .have n7':7<=(W + 1) * k:=by rw [Jb6]; exact oz94 h7
   have hpl:=Sw.pl_le I;have s1:=sw.dbl p0 p97 n7' (Zcu hp h7 IR wd);have pos:0 < ((W + 1) * k + 1) * 2 ^ wide:=Jey (by omega) (Jbj _);have b7:7<=((W + 1) * k + 1) * 2 ^ wide - 1:=by
    have:((W + 1) * k + 1) * 1<=((W + 1) * k + 1) * 2 ^ wide:=Jaz (Jag _) (Jbj _);exact oz93 n7' this
   have s2:=Zhy (pl:=pl) p0 p97 b7 s1 pl.length row hr;refine s2.le ?_;rw [show ((W + 1) * k + 1) * 2 ^ wide - 1 + 1 = ((W + 1) * k + 1) * 2 ^ wide by exact oz34 pos,Zin];unfold Zdh;rw [if_pos h0];have:((W + 1) * k + 1) * 2 ^ (wide + pl.length)<=((W + 1) * k + 1) * 2 ^ (2 * wide):=Jaz (Jag _) (Jbh (by decide) (by omega));omega
  .exact (Zfl h0 p97 (B.rw row hr)).le n7
 refine ⟨by omega,λxs hx=>?_,λxs hx x hxx=>?_⟩
 .obtain ⟨i,hi,rfl⟩:=Zbs hx [];have a:=al i hi;rw [<- a.1];exact (B.rw _ (Zap (Ze2 ml hi))).1
 .obtain ⟨i,hi,rfl⟩:=Zbs hx [];have a:=al i hi;obtain ⟨j,hj,e⟩:=Jas.mp hxx;obtain ⟨z,ez,iq⟩:=a.at (i:=j) (y:=x) (by rw [Jaa hj,e]);have hr:(Za7 p pl (done ++ left) pl.length).getD i [] ∈ Za7 p pl (done ++ left) pl.length:=Zap (Ze2 ml hi);have s1:=sm _ hr;have ldb:Bt (Zdh p k W wide) (Za2 pl (Za7 p pl (done ++ left) pl.length) i):=by
   unfold Za2;split
   .exact s1.at _
   .exact Zaz n7 (by decide)
  exact ⟨iq.is,iq.bt _ n7 (s1 z (Jae ez)) ldb⟩
end Pf
set_option maxHeartbeats 1000000
namespace Pf
open PySem L2 L3 PyProof.Rows
abbrev Zfx (M:Mv) (n:Nat):Mv:=(List.range n).map λj=>M.getD j [] ++ (Zcq n).getD j []
section
variable {F:Type} [Lean.Grind.Field F]
noncomputable def tr (w:Nat) (v:Nat->F):Nat->F:=λj=>if j < w then v j else 0
theorem Sp.trunc {S:(Nat->F)->Prop} {v:Nat->F} (w:Nat) (h:L3.Sp S v):L3.Sp (λu=>∃ s,S s/\u = tr w s) (tr w v):=by
 induction h with
 | mem h=>exact .mem ⟨_,h,rfl⟩
 | zero=>
  have:tr w (zv:Nat->F) = zv:=funext λj=>by unfold tr; split <;> rfl
  rw [this];exact .zero
 | @comb u v a b _ _ h1 h2=>
  have:tr w (λj=>a * u j + b * v j) = λj=>a * tr w u j + b * tr w v j:=funext λj=>by
   unfold tr;split
   .rfl
   .grind
  rw [this];exact .comb a b h1 h2
theorem Zoe {L L':List (Nat->F)} (w:Nat) (h:SpEq L L'):SpEq (L.map (tr w)) (L'.map (tr w)):=by
 refine ⟨λv hv=>?_,λv hv=>?_⟩
 .obtain ⟨u,hu,rfl⟩:=Jap.mp hv;exact (Sp.trunc w (h.le u hu)).trans λx ⟨s,hs,e⟩=>.mem (by rw [e]; exact Jap.mpr ⟨s,hs,rfl⟩)
 .obtain ⟨u,hu,rfl⟩:=Jap.mp hv;exact (Sp.trunc w (h.ge u hu)).trans λx ⟨s,hs,e⟩=>.mem (by rw [e]; exact Jap.mpr ⟨s,hs,rfl⟩)
theorem Zjy {xs:List Nv} {w:Nat}:(vN (xs.take w):Nat->F) = tr w (vN xs):=funext λj=>by
 unfold tr vN;by_cases h:j < w
 .rw [if_pos h,Jac,Jde h,Jac]
 .rw [if_neg h,Jac,Jaj (by rw [Jbf]; omega)];exact Zfe
theorem Zjz {xs:List Nv} {w j:Nat}:(vN (xs.drop w) j:F) = vN xs (w + j):=by
 unfold vN;rw [Jac,Jcw,Jac]
theorem Zui {xs ys:List Nv} {j:Nat}:(vN (xs ++ ys) j:F) = if j < xs.length then vN xs j else vN ys (j - xs.length):=by
 unfold vN;split
 .rename_i h
  rw [Jac,Jbd h,Jac]
 .rename_i h
  rw [Jac,Jbb (Zhf h),Jac]
theorem nm_one:(nm ((1,1):Nv):F) = 1:=by
 unfold nm;rw [Zeo];have:=Zo1 (F:=F)
 grind
theorem Zd8 {n i j:Nat} (hi:i < n) (hj:j < n):(vN ((Zcq n).getD i []) j:F) = del i j:=by
 have e:(Zcq n).getD i [] = eR n i:=by
  rw [Jac,Jad,Jav hi];rfl
 rw [e];unfold vN;rw [Jac,Jcu];show _ = if i = j then (1:F) else 0
 by_cases h:i = j
 .subst h;rw [if_pos rfl,if_pos (by rw [Ja9]; exact hi),if_pos rfl];exact nm_one
 .rw [if_neg h,if_neg h,Jbw,if_pos hj];exact Zfe
end
structure IsRed (p:Int) (k n wd:Nat) (M S R:Mv) (pl:List Nat):Prop where
 ex:∃ J,Red p k wd (Zfx M n) J pl/\S = J.map (λrow=>row.drop wd)/\R = J.map (λrow=>row.take wd)
theorem Zg0 {M:Mv} {n wd:Nat} (hl:M.length = n) (hw:∀ xs ∈ M,xs.length = wd):∀ xs ∈ Zfx M n,xs.length = wd + n:=λxs hx=>by
 obtain ⟨j,hj,rfl⟩:=Jap.mp hx;have hj:=Ja4.mp hj;rw [Jam,hw _ (Zap (Zck hl hj))];have e:(Zcq n).getD j [] = eR n j:=by
  rw [Jac,Jad,Jav hj];rfl
 rw [e,Jay,Ja9]
theorem Zlp {p:Int} (hp:GroundP p):Isn p (0,1)/\Isn p (1,1):=by
 have h0:=Zdd (p:=p) (k:=0) hp.lo;have h1:=Zdd (p:=p) (k:=1) hp.lo;rw [Zen] at h0;rw [Zkb hp] at h1;exact ⟨h0,h1⟩
theorem Zo4 {p:Int} {n k:Nat} (hp:GroundP p) (h7:7<=k) {j:Nat}:Zbc p k ((Zcq n).getD j []):=λx hx=>by
 obtain ⟨i0,i1⟩:=Zlp hp;by_cases hj:j < n
 .have e:(Zcq n).getD j [] = eR n j:=by
   rw [Jac,Jad,Jav hj];rfl
  rw [e] at hx;rcases Jar hx with h | h
  .rw [Jea h];exact ⟨i0,Zg1 _,Zaz h7 (by decide)⟩
  .rw [h];exact ⟨i1,Zaz h7 (by decide),Zaz h7 (by decide)⟩
 .rw [Jac,Jaj (by simp; exact Zhf hj)] at hx;simp at hx
theorem Zlo {p:Int} {M:Mv} {n k:Nat} (hp:GroundP p) (h7:7<=k) (hg:∀ xs ∈ M,Zbc p k xs):∀ xs ∈ Zfx M n,Zbc p k xs:=λxs hx x hxx=>by
 obtain ⟨j,hj,rfl⟩:=Jap.mp hx;rcases Jal.mp hxx with h | h
 .by_cases hj':j < M.length
  .exact hg _ (Zap hj') x h
  .rw [Jac,Jaj (Zhf hj')] at h;simp at h
 .exact Zo4 hp h7 x h
theorem IsRed.good {p:Int} {k n wd:Nat} {M S R:Mv} {pl:List Nat} (hp:GroundP p) (h7:7<=k) (I:IsRed p k n wd M S R pl) (hl:M.length = n) (hw:∀ xs ∈ M,xs.length = wd):
  S.length = n/\R.length = n/\(∀ xs ∈ S,xs.length = n/\Zbc p (Zdh p k (wd + n) wd) xs)/\∀ xs ∈ R,xs.length = wd/\Zbc p (Zdh p k (wd + n) wd) xs:=by
 obtain ⟨J,rd,rfl,rfl⟩:=I.ex;obtain ⟨g1,g2,g3⟩:=rd.good hp h7 (Zg0 hl hw);rw [Jab,Jao] at g1;refine ⟨by rw [Jab]; exact g1,by rw [Jab]; exact g1,λxs hx=>?_,λxs hx=>?_⟩
 .obtain ⟨row,hr,rfl⟩:=Jap.mp hx;exact ⟨by rw [Jbm,g2 row hr]; exact oz9,λx hxx=>g3 row hr x (Jco hxx)⟩
 .obtain ⟨row,hr,rfl⟩:=Jap.mp hx;exact ⟨by rw [Jbf,g2 row hr]; exact oz77,λx hxx=>g3 row hr x (Jcy hxx)⟩
section
variable {p:Int} {F:Type} [Lean.Grind.Field F]
structure RedF (F:Type) [Lean.Grind.Field F] (n wd:Nat) (M S R:Mv) (pl:List Nat):Prop where
 rr:RR (R.map (vN (F:=F))) wd pl.length (λi=>pl.getD i 0)
 sp:SpEq (R.map (vN (F:=F))) (M.map vN)
 mul:∀ i j,i < n->j < wd->(vN (R.getD i []) j:F) = sm n λl=>vN (S.getD i []) l * vN (M.getD l []) j
 inv:∃ U:Nat->Nat->F,∀ i j,i < n->j < n->mm n U (λl j=>vN (S.getD l []) j) i j = del i j
theorem IsRed.fd {k n wd:Nat} {M S R:Mv} {pl:List Nat} (hp:GroundP p) (h7:7<=k) (hF:FdOk p F) (I:IsRed p k n wd M S R pl) (hl:M.length = n) (hw:∀ xs ∈ M,xs.length = wd) (hg:∀ xs ∈ M,Zbc p k xs):RedF F n wd M S R pl:=by
 obtain ⟨J,rd,rfl,rfl⟩:=I.ex;have jw:=Zg0 hl hw;have jg:=Zlo (n:=n) hp h7 hg;obtain ⟨g1,g2,g3⟩:=rd.good hp h7 jw;rw [Jab,Jao] at g1;obtain ⟨rr,sp⟩:=rd.rr hp hF jw (λxs hx x hxx=>(jg xs hx x hxx).1);have eJ:∀ {f:List Nv->List Nv} {i:Nat},i < n->(J.map f).getD i [] = f (J.getD i []):=λ{f i} hi=>by
  rw [Jac,Jad,Jaa (show i < J.length by exact Zck g1 hi),Za0 (show i < J.length by exact Zck g1 hi)];rfl
 have atJ:∀ i,i < n->at' (J.map (vN (F:=F))) i = vN (J.getD i []):=λi hi=>Ziy (Zck g1 hi);have atR:∀ i,i < n->at' ((J.map λrow=>row.take wd).map (vN (F:=F))) i = tr wd (vN (J.getD i [])):=λi hi=>by
  rw [Ziy (d:=[]) (by rw [Jab]; exact Zck g1 hi),eJ hi,Zjy]
 have atM:∀ l j,l < n->at' ((Zfx M n).map (vN (F:=F))) l j = if j < wd then vN (M.getD l []) j else vN ((Zcq n).getD l []) (j - wd):=λl j hl'=>by
  rw [Ziy (d:=[]) (by simp; exact oz61 hl')];have:(Zfx M n).getD l [] = M.getD l [] ++ (Zcq n).getD l []:=by
   rw [Jac,Jad,Jav hl'];rfl
  rw [this,Zui,hw _ (Zap (Zck hl hl'))]
 have len1:(J.map (vN (F:=F))).length = n:=by rw [Jab]; exact g1
 have len2:((Zfx M n).map (vN (F:=F))).length = n:=by simp
 refine ⟨⟨?_,rr.cn,rr.mono,λi k' hi hk=>?_,λi j hi hj=>?_,λi j hi hi2 hj=>?_⟩,?_,λi j hi hj=>?_,?_⟩
 .rw [Jab,Jab];have:=rr.rl;rw [Jab] at this;exact this
 .have hin:i < n:=by have:=rr.rl; exact oz73 len1 hi this
  rw [atR i hin];show (if pl.getD k' 0 < wd then _ else _) = _;rw [if_pos (rr.cn k' hk),<- rr.piv i k' hi hk,atJ i hin]
 .have hin:i < n:=by have:=rr.rl; exact oz73 len1 hi this
  rw [atR i hin];have h1:=rr.cn i hi;have h2:=rr.low i j hi hj;rw [atJ i hin] at h2;show (if j < wd then _ else _) = _;rw [if_pos (Jej hj h1)];exact h2
 .rw [Jab,Jab] at hi2;have hin:i < n:=by exact Ze2 g1 hi2
  rw [atR i hin];have h2:=rr.zer i j hi (by rw [Jab]; exact oz61 hi2) hj;rw [atJ i hin] at h2;show (if j < wd then _ else _) = _;rw [if_pos hj];exact h2
 .have h1:=Zoe wd sp;have e1:(J.map (vN (F:=F))).map (tr wd) = (J.map λrow=>row.take wd).map vN:=by
   rw [List.map_map,List.map_map];exact Jct λrow _=>(Zjy).symm
  have e2:((Zfx M n).map (vN (F:=F))).map (tr wd) = M.map vN:=by
   apply Jcm;intro l;by_cases hl':l < n
   .rw [Jad,Jad,Jad,Jav hl',Jad,Jaa (show l < M.length by exact Zck hl hl')];show some (tr wd (vN (M.getD l [] ++ (Zcq n).getD l []))) = some (vN M[l]);rw [<- Zjy,List.take_left' (hw _ (Zap (Zck hl hl'))),Za0 (Zck hl hl')]
   .rw [Jaj (by simp; exact Zhf hl'),Jaj (by rw [Jab]; exact oz100 hl hl')]
  rwa [e1,e2] at h1
 .obtain ⟨c,hc⟩:=(sp.le _ (Zbz (i:=i) (Zck len1 hi))).coef;rw [len2] at hc;rw [atJ i hi] at hc;have hS:∀ l,l < n->(vN (((J.map λrow=>row.drop wd)).getD i []) l:F) = c l:=λl hl'=>by
   rw [eJ hi,Zjz,hc (wd + l)];rw [Zaf (g:=λx=>c x * (if x = l then 1 else 0)) λx hx=>by
    rw [atM x _ hx,if_neg Zs4,show wd + l - wd = l by exact oz9,Zd8 hx hl']]
   exact Zdu _ hl'
  rw [eJ hi,Zjy];show (if j < wd then _ else _) = _;rw [if_pos hj,hc j];refine Zaf λl hl'=>?_;rw [atM l j hl',if_pos hj,hS l hl']
 .have hc:∀ i,i < n->∃ c:Nat->F,∀ j,at' ((Zfx M n).map (vN (F:=F))) i j = sm n λl=>c l * at' (J.map vN) l j:=λi hi=>by
   obtain ⟨c,hc⟩:=(sp.ge _ (Zbz (i:=i) (Zck len2 hi))).coef;rw [len1] at hc;exact ⟨c,hc⟩
  refine ⟨λi=>if hi:i < n then Classical.choose (hc i hi) else zv,λi j hi hj=>?_⟩;have h1:=Jb5 (hc i hi) (wd + j);rw [atM i _ hi,if_neg Zs4,show wd + j - wd = j by exact oz9,Zd8 hi hj] at h1;rw [h1];refine Zaf λl hl'=>?_;show (if hi:i < n then Classical.choose (hc i hi) else zv) l * vN ((J.map λrow=>row.drop wd).getD l []) j = _;rw [dif_pos hi,eJ hl',Zjz,atJ l hl']
end
end Pf
namespace Pf
open PySem L2 L3 PyProof.Rows
section
variable {P:Program} {w:World} {K:PySem.W.Frag} {mg:Str->Option Value} {base:Heap} {C PL cL:Addr}
structure TabB (H:Hp) (p:Int) (k n wd:Nat) (t r:Addr) (rs:List Addr) (M:Mv):Prop where
 tv:TabV H p n wd t r rs M
 hl:M.length = n
 hw:∀ xs ∈ M,xs.length = wd
 gd:∀ xs ∈ M,Zbc p k xs
theorem TabB.same {H H':Hp} {p:Int} {k n wd:Nat} {t r:Addr} {rs:List Addr} {M:Mv} (h:TabB H p k n wd t r rs M) (s:Same H H'):TabB H' p k n wd t r rs M:=⟨h.tv.same s,h.hl,h.hw,h.gd⟩
theorem Zjd {a D:Addr} {p:Int} {fr:List (Str × Nat)} {σ:L2.St} {te:TE} {H1:Hp} {Q:VK} {as:List Addr} {M:Mv} (f:List Nv->List Nv) (ha:H1 a = some (.lst (as.map V.ref))) (rv:All2 (RowV H1 p) as M) (hD:H1 D = none) (hn:as.length<=1000)
  (h:∀ (b:Addr) xs H (Q:VK),xs ∈ M->RowV H p b xs->Same H1 H->(∀ c H',H c = none->Same H H'->RowV H' p c (f xs)->Q (.ref c) H')->te (some (.ref b) :: Zbp fr σ) H Q)
  (hQ:∀ (rs:List Addr) H',Same H1 H'->H' D = some (.lst (rs.map V.ref))->All2 (RowV H' p) rs (M.map f)->D ∉ rs->(∀ b ∈ rs,H1 b = none)->Q (.ref D) H'):Zcg (Zb4 0) Zhq te (Itl K a) D (Zgr 1 fr σ) H1 Q:=by
 refine Zcc (λi Hc y=>∃ b,y = .ref b/\RowV Hc p b ((M.map f).getD i [])/\b ≠ D/\H1 b = none) (λ⟨a,e,b,c⟩ s=>⟨a,e,b.same s,c⟩) (λ⟨a,e,b,c,d⟩ hD=>⟨a,e,b.put hD c,c,d⟩) ha hD (by rw [Jab]; exact hn) (λi x H' Q' hx s' ⟨lD,hlD⟩ q'=>?_) (λys H' s' h' hyl hys=>?_)
 .obtain ⟨xs,er,b,rfl,rb⟩:=(Zay rv).at' hx;refine h b xs H' Q' (Jae er) (rb.same s') s' λc H2 hc s2 rc=>q' _ H2 s2 ⟨c,rfl,?_,(Zaj hlD hc).symm,s'.free hc⟩;rw [Zah (show _ = some _ by rw [Jad,er]; rfl)];exact rc
 .rw [Jab] at hyl;obtain ⟨rs',rfl,a2,nD,fr⟩:=Zii (D:=D) (H1:=H1) (p:=p) (M:=M.map f) (by rw [Jab,<- rv.1]; exact hyl) hys;exact hQ rs' H' s' h' a2 nD fr
def Zh4 (C PL:Addr):L2.Sp:=λvs H Q _=>∃ (g t r:Addr) (rs:List Addr) (p:Int) (k n wd:Nat) (M:Mv),vs = [.ref g,.ref t]/\GAt C H g p/\GroundP p/\TabB H p k n wd t r rs M/\n<=24/\wd<=24/\7<=k/\(Zgd p k wd (Zfx M n)/\Ziz p k wd (Zfx M n))/\(wd + n + 1) * k<=NB/\H PL = some Zos /\
 ∀ (t' tS rS tR rR:Addr) (rsS rsR:List Addr) (S R:Mv) (pl:List Nat) H',Same H H'->H' t' = some (.tup [.ref tS,.ref tR])->New H tS rS rsS->New H tR rR rsR->TabV H' p n n tS rS rsS S->TabV H' p n wd tR rR rsR R->(∀ a ∈ rsS,a ≠ rR/\a ∉ rsR)->rS ≠ rR->rS ∉ rsR->IsRed p k n wd M S R pl->Q (.ref t') H'
theorem Zon {f:Addr} {fd:FuncData} (F:Fun K "reduced" "reduced" Zed f fd) (T:Txt K mg C) (C_side_by_side:Cal P w K mg base "side_by_side" 1 (Znf C)) (C_plain:Cal P w K mg base "plain" 8 (spPl C)) (C_reduced_rows:Cal P w K mg base "reduced_rows" 8 (Zsk C PL)):FnOk P w K mg base CX0 9 f fd ["ground","table"] (Zh4 C PL):=by
 have nd:=Zjg.nd;refine F.ok Zjg (λvs H Q E h=>?_) (λcdv A outer s H vs Q E hr h=>?_)
 .obtain ⟨g,t,r,rs,p,k,n,wd,M,rfl,_⟩:=h;rfl
 .obtain ⟨g,t,r,rs,p,k,n,wd,M,rfl,hg,hp,tb,n24,w24,k7,nb,kb,hPL,q⟩:=h;refine ⟨_,((Zbm (pv 1) (@Zcd _ _ _ _ _ 3 rfl (@Zag _ _ _ _ _ (@Zae _ _ 2 _ nd rfl (Or.inl rfl) (Or.inl rfl)) (@Zag _ _ _ _ _ (@Zae _ _ 3 _ nd rfl (Or.inr rfl) (Or.inl rfl)) (@Zag _ _ _ _ _ (@Zae _ _ 4 _ nd rfl (Or.inl rfl) (Or.inl rfl)) (@Za3 _) (by rfl)) (by rfl)) (by rfl)) (by rfl) (by rfl)))<*>((Zar (i:=5) nd rfl (Or.inl rfl) (Za5 C_side_by_side hr.m rfl ((pv 0)<&>((pv 2)<&>((@Zce _ _ _ _ ((pv 1)<&>((Za5 C_plain hr.m rfl ((pv 0)<&>((pv 2)<&>Zaa)))<&>Zaa)))<&>Zaa)))))<*>((Zar (i:=6) nd rfl (Or.inl rfl) (Zaq<|>(Za5 C_reduced_rows hr.m rfl ((pv 0)<&>((Zaq<|>(pv 5)<||>Zac)<&>((pv 3)<&>Zaa))))<||>Zac))<*>(~~~(@Za9 _ _ _ _ _ ((@Za9 _ _ _ _ _ ((pv 2)<&>((pv 2)<&>((Za6 (own:=["row"]) (fr:=[("wide",3)]) rfl (Zb0 (by kernel_rfl)) (Zbd (pv 6)) (λ_ _ _ _=>⟨(@Zae _ _ 0 _ (show (["row","wide"]:List Str).Nodup by decide +kernel) rfl (Or.inl rfl) (Or.inr rfl)),Za1,(@Zd4 _ _ _ _ _ _ _ _ _ _ (Zj3 K rfl) (pv 0) (@Zd9 _ _ _ (pv 1)) Zga)⟩))<&>Zaa))))<&>((@Za9 _ _ _ _ _ ((pv 2)<&>((pv 3)<&>((Za6 (own:=["row"]) (fr:=[("wide",3)]) rfl (Zb0 (by kernel_rfl)) (Zbd (pv 6)) (λ_ _ _ _=>⟨(@Zae _ _ 0 _ (show (["row","wide"]:List Str).Nodup by decide +kernel) rfl (Or.inl rfl) (Or.inr rfl)),Za1,(@Zd4 _ _ _ _ _ _ _ _ _ _ (Zj3 K rfl) (pv 0) Zga (@Zd9 _ _ _ (pv 1)))⟩))<&>Zaa))))<&>Zaa))))))),?_⟩;walk_at "wp";refine ⟨_,SqT.of tb.tv.tup,rfl,_,_,rfl,_,_,rfl,_,_,rfl,rfl,?_⟩;refine ⟨g,p,n,rfl,hg,hp,Ze3,Zma n24,λtU rU rsU H1 s1 nwU tbU=>⟨by decide,λLT hLT=>?_⟩⟩;have s2:=Same.new (o:=.lst [V.ref t,V.ref tU]) hLT;have s12:=s1.trans s2;have tb2:=tb.same s12;have tbU2:=tbU.same s2;rw [Jau] at tbU2;have ul:(Zcq n).length = n:=by rw [Jab,Jao]
  have uw:∀ row ∈ Zcq n,(row.length:Int) = n:=λrow hr=>by
   obtain ⟨i,hi,rfl⟩:=Jap.mp hr;rw [Jay,Ja9]
  refine ⟨g,LT,p,n,[t,tU],[((n:Int),(wd:Int),M),((n:Int),(n:Int),Zcq n)],rfl,Ze3,Zma n24,⟨Zab,(All2.one ⟨r,rs,tb2.tv⟩).app (All2.one ⟨rU,rsU,tbU2⟩)⟩,⟨by show 2<=9; decide,λi hi=>?_⟩,λi hi=>?_,λ_ tJ rJ rsJ H3 s3 nwJ tbJ=>?_⟩
  .match i,hi with
   | 0,_=>exact ⟨by show (0:Int)<=n; exact Ze3,by show (n:Int)<=24; exact Zma n24,by show (0:Int)<=wd; exact Ze3,by show (wd:Int)<=24; exact Zma w24,by show (M.length:Int) = n; rw [tb.hl],λrow hr=>by show (row.length:Int) = wd; rw [tb.hw row hr]⟩
   | 1,_=>exact ⟨by show (0:Int)<=n; exact Ze3,by show (n:Int)<=24; exact Zma n24,by show (0:Int)<=n; exact Ze3,by show (n:Int)<=24; exact Zma n24,by show ((Zcq n).length:Int) = n; rw [ul],uw⟩
  .match i,hi with
   | 0,_=>rfl
   | 1,_=>rfl
  have eJ:Zk2 [((n:Int),(wd:Int),M),((n:Int),(n:Int),Zcq n)] ((n:Int)).toNat [((n:Int),(wd:Int),M),((n:Int),(n:Int),Zcq n)].length = Zfx M n:=by
   rw [Jau];rfl
  rw [eJ] at tbJ;have jw:=Zg0 tb.hl tb.hw;have jg:=Zlo (n:=n) hp k7 tb.gd;have s13:=s12.trans s3;obtain ⟨sw1,sw2⟩:=nb;refine ⟨tJ,rfl,_,SqT.of tbJ.tup,_,rfl,g,rJ,p,rsJ,Zfx M n,k,wd + n,wd,rfl,hg.same s13,hp,⟨tbJ.lst,tbJ.row,jw,jg,by simp; omega,by omega,by omega,kb⟩,Zs5,s13 _ _ hPL,sw1,sw2,λtt FF pA rsF J pl H4 s4 ht4 hFF hpA nFp ep eF rvF nrF rd=>?_⟩;obtain ⟨g1,g2,g3⟩:=rd.good hp k7 jw;rw [Jab,Jao] at g1;have rl4:=rvF.1;have s14:=s13.trans s4;refine ⟨tt,rfl,_,SqT.of ht4,_,rfl,?_⟩;refine ⟨_,rfl,FF,rfl,⟨_,SqL.of eF⟩,λD1 hD1=>Zjd (λrow=>row.drop wd) eF rvF hD1 (oz117 n24 g1 rl4) (λa xs H' Q' hx rv s' q'=>?_) λrsS H5 s5 e5 rvS nS fS=>⟨by decide,λtS htS=>?_⟩⟩
  .obtain ⟨vs,hv,al⟩:=rv;have xl:=g2 xs hx;have vl:=al.1;refine ⟨_,rfl,_,rfl,_,rfl,a,vs,rfl,SqL.of hv,λb hb=>?_⟩;rw [Zkh _ _ Ze3 (by omega),Jau];have sb:=Same.new (o:=.lst (vs.drop wd)) hb;exact q' b _ hb sb ⟨_,Zab,(al.drop wd).mono λ_ _ r=>r.same sb⟩
  have s6:=Same.new (o:=.tup [V.int n,V.int n,V.ref D1]) htS;have s56:=s5.trans s6;refine ⟨_,rfl,FF,rfl,⟨_,SqL.of (s56 _ _ eF)⟩,λD2 hD2=>Zjd (λrow=>row.take wd) (s56 _ _ eF) (rvF.mono λ_ _ r=>r.same s56) hD2 (oz117 n24 g1 rl4) (λa xs H' Q' hx rv s' q'=>?_) λrsR H7 s7 e7 rvR nR fR=>⟨by decide,λtR htR=>⟨by decide,λt' ht'=>?_⟩⟩⟩
  .obtain ⟨vs,hv,al⟩:=rv;have xl:=g2 xs hx;have vl:=al.1;refine ⟨_,rfl,_,rfl,_,rfl,a,vs,rfl,SqL.of hv,λb hb=>?_⟩;rw [Zrn _ _ Ze3 (by omega),Jau];have sb:=Same.new (o:=.lst (vs.take wd)) hb;exact q' b _ hb sb ⟨_,Zab,(al.take wd).mono λ_ _ r=>r.same sb⟩
  have s8:=Same.new (o:=.tup [V.int n,V.int wd,V.ref D2]) htR;have s9:=Same.new (o:=.tup [V.ref tS,V.ref tR]) ht';have s79:=(s7.trans s8).trans s9;have s16:=s14.trans s56;refine q t' tS D1 tR D2 rsS rsR _ _ pl _ (s16.trans s79) Zab ⟨(s14.trans s5).free htS,s14.free hD1,λa ha=>s14.free (fS a ha)⟩ ⟨(s16.trans s7).free htR,s16.free hD2,λa ha=>s16.free (fR a ha)⟩ ⟨s79 _ _ Zab,(s6.trans s79) _ _ e5,rvS.mono λ_ _ r=>r.same (s6.trans s79),nS⟩ ⟨s9 _ _ Zab,(s8.trans s9) _ _ e7,rvR.mono λ_ _ r=>r.same (s8.trans s9),nR⟩ (λa ha=>?_) ?_ ?_ ⟨J,rd,rfl,rfl⟩
  .have ha2:∃ o,upd H5 tS (.tup [V.int n,V.int n,V.ref D1]) a = some o:=by
    obtain ⟨i,hi,rfl⟩:=Jas.mp ha;obtain ⟨_,_,us,hu,_⟩:=rvS.at' (Jaa hi);exact ⟨_,s6 _ _ hu⟩
   obtain ⟨o,ho⟩:=ha2;exact ⟨λz=>(by rw [z,hD2] at ho; cases ho),λz=>(by rw [fR a z] at ho; cases ho)⟩
  .intro z;rw [<- z,s6 _ _ e5] at hD2;cases hD2
  .intro z;have:=fR _ z;rw [s6 _ _ e5] at this;cases this
def Zky:L2.Sp:=λvs H Q _=>∃ a b:Int,vs = [.int a,.int b]/\0 < b/\∀ t,H t = none->Q (.ref t) (upd H t (.tup [.int (nrm a b).1,.int (nrm a b).2]))
theorem Zqb {f:Addr} {fd:FuncData} (F:Fun K "_law_lowest" "_law_lowest" Zbq f fd) (T:Txt K mg C) (hpt:P.given.tree = none) (C_law_gcd:Cal P w K mg base "_law_gcd" 1 Zpo):FnOk P w K mg base CX0 2 f fd ["_law_top","_law_bottom"] Zky:=by
 have nd:=Zdg.nd;refine F.ok Zdg (λvs H Q E h=>?_) (λcdv A outer s H vs Q E hr h=>?_)
 .obtain ⟨a,b,rfl,_⟩:=h;rfl
 .obtain ⟨a,b,rfl,hb,q⟩:=h;have Zfy:∀ {c A B:Prop} [Decidable c],¬ c->B->if c then A else B:=λhc h=>by rw [if_neg hc]; exact h
  refine ⟨_,((@Za4 _ _ _ _ _ _ _ _ (Zai Zi3 (pv 1) Zac (Zan _)) (@Zas _ _ _ Zfr) Zao)<*>((Zar (i:=2) nd rfl (Or.inl rfl) (Za5 C_law_gcd hr.m rfl ((pv 0)<&>((pv 1)<&>Zaa))))<*>(~~~(@Za9 _ _ _ _ _ (((Zci hpt (Zbu hr))<|>(pv 0)<&&>(pv 2))<&>(((Zci hpt (Zbu hr))<|>(pv 1)<&&>(pv 2))<&>Zaa)))))),?_⟩;walk_at "wp";have g0:=Zdi (a:=a) hb;refine Zfy (by rw [Jb4 (by omega)]; decide) ⟨a,b,rfl,_,rfl,by omega,_,rfl,by omega,by decide,λt ht=>?_⟩;rw [Zc9 g0,Zc9 g0];exact q t ht
theorem Zqa {f:Addr} {fd:FuncData} (F:Fun K "_law_lowest" "_law_lowest" Zbq f fd) (T:Txt K mg C) (hpt:P.given.tree = none) (C_law_gcd:Cal P w K mg base "_law_gcd" 1 Zpo):FnOk P w K mg base CX0 2 f fd ["_law_top","_law_bottom"] Zi9:=
 (Zqb F T hpt C_law_gcd).imp λvs H Q E ⟨a,b,e,_,h1,_,q⟩=>⟨a,b,e,h1,q⟩
def Zpl:L2.Sp:=λvs H Q _=>∃ a b:Int,vs = [.int a,.int b]/\b ≠ 0/\∀ t,H t = none->Q (.ref t) (upd H t (.tup [.int (nrS a b).1,.int (nrS a b).2]))
theorem ok_lowZ {f:Addr} {fd:FuncData} (F:Fun K "_law_lowest" "_law_lowest" Zbq f fd) (T:Txt K mg C) (hpt:P.given.tree = none) (C_law_gcd:Cal P w K mg base "_law_gcd" 1 Zpo) (C_law_lowest:Cal P w K mg base "_law_lowest" 2 Zky):FnOk P w K mg base CX0 3 f fd ["_law_top","_law_bottom"] Zpl:=by
 have nd:=Zdg.nd;refine F.ok Zdg (λvs H Q E h=>?_) (λcdv A outer s H vs Q E hr h=>?_)
 .obtain ⟨a,b,rfl,_⟩:=h;rfl
 .obtain ⟨a,b,rfl,hb,q⟩:=h;refine ⟨_,((@Za4 _ _ _ _ _ _ _ _ (Zai Zi3 (pv 1) Zac (Zan _)) (~~~(Za5 C_law_lowest hr.m rfl ((Zi2 Zfz (pv 0))<&>((Zi2 Zfz (pv 1))<&>Zaa)))) Zao)<*>((Zar (i:=2) nd rfl (Or.inl rfl) (Za5 C_law_gcd hr.m rfl ((pv 0)<&>((pv 1)<&>Zaa))))<*>(~~~(@Za9 _ _ _ _ _ (((Zci hpt (Zbu hr))<|>(pv 0)<&&>(pv 2))<&>(((Zci hpt (Zbu hr))<|>(pv 1)<&&>(pv 2))<&>Zaa)))))),?_⟩;walk_at "wp";refine Zdz (λhc=>?_) (λhc=>?_)
  .have hc:=Ja7 hc;refine ⟨-a,-b,rfl,by omega,λt ht=>?_⟩;have:=q t ht;unfold nrS at this;rw [if_pos hc] at this;exact this
  .have hc:¬ b < 0:=λz=>hc (Jbc z);have g0:=Zdi (a:=a) (show 0 < b by omega);refine ⟨a,b,rfl,_,rfl,by omega,_,rfl,by omega,by decide,λt ht=>?_⟩;rw [Zc9 g0,Zc9 g0];have:=q t ht;unfold nrS at this;rw [if_neg hc] at this;exact this
structure TwoB (H:Hp) (p:Int) (va vb:V) (x y:Nv):Prop where
 a:NumV H p va x
 b:NumV H p vb y
 hx:Isn p x
 hy:Isn p y
 bt:∃ n m:Nat,Bt n x.1/\Bt n x.2/\Bt m y.1/\Bt m y.2/\n + m<=134000000
def Zkx (op:Int->Nv->Nv->Nv):L2.Sp:=λvs H Q _=>∃ (p:Int) (va vb:V) (x y:Nv),vs = [.int p,va,vb]/\GroundP p/\TwoB H p va vb x y/\∀ v H',Same H H'->NumV H' p v (op p x y)->Q v H'
theorem ok_addB {f:Addr} {fd:FuncData} (F:Fun K "_law_add" "_law_add" Zdw f fd) (T:Txt K mg C) (C_law_lowest:Cal P w K mg base "_law_lowest" 2 Zky):FnOk P w K mg base CX0 3 f fd ["_law_p","_law_a","_law_b"] (Zkx Zc5):=by
 have nd:=Zfo.nd;refine F.ok Zfo (λvs H Q E h=>?_) (λcdv A outer s H vs Q E hr h=>?_)
 .obtain ⟨p,va,vb,x,y,rfl,_⟩:=h;rfl
 .obtain ⟨p,va,vb,x,y,rfl,hp,h2,q⟩:=h;have p0:=hp.lo;obtain ⟨n,m,b1,b2,b3,b4,nm'⟩:=h2.bt;refine ⟨_,((@Za4 _ _ _ _ _ _ _ _ (Zai Ze4 (pv 0) Zac (Zan _)) (~~~(Zct<|>(Zdf<|>(pv 1)<&&>(pv 2))<&&>(pv 0))) Zao)<*>(~~~(Za5 C_law_lowest hr.m rfl ((Zdf<|>(Zbb<|>(Zaq<|>(pv 1)<||>Zac)<&&>(Zaq<|>(pv 2)<||>Zac))<&&>(Zbb<|>(Zaq<|>(pv 2)<||>Zac)<&&>(Zaq<|>(pv 1)<||>Zac)))<&>((Zbb<|>(Zaq<|>(pv 1)<||>Zac)<&&>(Zaq<|>(pv 2)<||>Zac))<&>Zaa))))),?_⟩;walk_at "wp";refine Zdz (λhc=>?_) (λhc=>?_)
  .have hc:=Ja7 hc;obtain rfl:=h2.a.int (by omega);obtain rfl:=h2.b.int (by omega);refine ⟨_,rfl,_,rfl,hc,q _ H (Same.refl _) ?_⟩;have:=NumV.of (H:=H) (x:=Zc5 p x y) (show ¬ p = 0 by omega);rw [Zc5,if_neg (by omega)] at this ⊢;exact this
  .have hc:¬ 0 < p:=λz=>hc (Jbc z);have hp0:p = 0:=by exact Zlc p0 hc
   obtain ⟨ta,rfl,hta⟩:=h2.a.ref hp0;obtain ⟨tb,rfl,htb⟩:=h2.b.ref hp0;walk_at "wp";refine ⟨_,SqT.of hta,_,rfl,_,SqT.of htb,_,rfl,_,rfl,_,rfl,b1.ok b4 (by omega),_,SqT.of htb,_,rfl,_,SqT.of hta,_,rfl,_,rfl,_,rfl,b3.ok b2 (by omega),_,SqT.of hta,_,rfl,_,SqT.of htb,_,rfl,_,rfl,_,rfl,b2.ok b4 (by omega),?_⟩;refine ⟨_,_,rfl,Jc2 h2.hx.pos h2.hy.pos,λt ht=>q _ _ (Same.new ht) ?_⟩;rw [Zc5,if_pos hp0];exact NumV.tup hp0 Zab
theorem ok_mulB {f:Addr} {fd:FuncData} (F:Fun K "_law_mul" "_law_mul" Zdv f fd) (T:Txt K mg C) (C_law_lowest:Cal P w K mg base "_law_lowest" 2 Zky):FnOk P w K mg base CX0 3 f fd ["_law_p","_law_a","_law_b"] (Zkx Zba):=by
 have nd:=Zfn.nd;refine F.ok Zfn (λvs H Q E h=>?_) (λcdv A outer s H vs Q E hr h=>?_)
 .obtain ⟨p,va,vb,x,y,rfl,_⟩:=h;rfl
 .obtain ⟨p,va,vb,x,y,rfl,hp,h2,q⟩:=h;have p0:=hp.lo;obtain ⟨n,m,b1,b2,b3,b4,nm'⟩:=h2.bt;refine ⟨_,((@Za4 _ _ _ _ _ _ _ _ (Zai Ze4 (pv 0) Zac (Zan _)) (~~~(Zct<|>(Zjt<|>(pv 1)<&&>(pv 2))<&&>(pv 0))) Zao)<*>(~~~(Za5 C_law_lowest hr.m rfl ((Zbb<|>(Zaq<|>(pv 1)<||>Zac)<&&>(Zaq<|>(pv 2)<||>Zac))<&>((Zbb<|>(Zaq<|>(pv 1)<||>Zac)<&&>(Zaq<|>(pv 2)<||>Zac))<&>Zaa))))),?_⟩;walk_at "wp";refine Zdz (λhc=>?_) (λhc=>?_)
  .have hc:=Ja7 hc;obtain rfl:=h2.a.int (by omega);obtain rfl:=h2.b.int (by omega);have p97:=hp.hi;have hx:0<=x.1/\x.1 < p:=by rcases h2.hx with ⟨h,_⟩ | ⟨_,h,h',_⟩ <;> omega
   refine ⟨_,rfl,_,rfl,.inl ⟨by omega,by omega⟩,hc,q _ H (Same.refl _) ?_⟩;have:=NumV.of (H:=H) (x:=Zba p x y) (show ¬ p = 0 by omega);rw [Zba,if_neg (by omega)] at this ⊢;exact this
  .have hc:¬ 0 < p:=λz=>hc (Jbc z);have hp0:p = 0:=by exact Zlc p0 hc
   obtain ⟨ta,rfl,hta⟩:=h2.a.ref hp0;obtain ⟨tb,rfl,htb⟩:=h2.b.ref hp0;walk_at "wp";refine ⟨_,SqT.of hta,_,rfl,_,SqT.of htb,_,rfl,_,rfl,_,rfl,b1.ok b3 (by omega),_,SqT.of hta,_,rfl,_,SqT.of htb,_,rfl,_,rfl,_,rfl,b2.ok b4 (by omega),?_⟩;refine ⟨_,_,rfl,Jc2 h2.hx.pos h2.hy.pos,λt ht=>q _ _ (Same.new ht) ?_⟩;rw [Zba,if_pos hp0];exact NumV.tup hp0 Zab
abbrev BtN (n:Nat) (x:Nv):Prop:=Bt n x.1/\Bt n x.2
theorem BtN.le {n m:Nat} {x:Nv} (h:BtN n x) (hm:n<=m):BtN m x:=⟨h.1.le hm,h.2.le hm⟩
theorem Zkl {p:Int} {x:Nv} (h0:p ≠ 0) (p97:p<=97) (h:Isn p x):BtN 7 x:=by
 rcases h with ⟨e,_⟩ | ⟨_,e1,e2,e3⟩
 .exact absurd e h0
 .exact ⟨Zaz (Jag _) (by omega),by rw [e3]; exact Zaz (Jag _) (by decide)⟩
theorem Zna {a b:Int} {n:Nat} (ha:Bt n a) (hb:Bt n b):BtN n (nrm a b):=⟨ha.quo (Jbv ..),hb.quo (Jb0 ..)⟩
theorem Zn9 {p:Int} {x y:Nv} {n m:Nat} (hp:GroundP p) (hx:Isn p x) (hy:Isn p y) (h1:BtN n x) (h2:BtN m y) (h7:7<=n):BtN (n + m + 1) (Zc5 p x y):=by
 by_cases h0:p = 0
 .unfold Zc5;rw [if_pos h0];refine Zna ?_ ((h1.2.mul h2.2).le (by omega));have a:=h1.1.mul h2.2;have b:=h2.1.mul h1.2;rw [Nat.add_comm m n] at b;exact Bt.add a b
 .exact (Zkl h0 hp.hi (Zft hp.lo hx hy)).le (by omega)
theorem Zgs {p:Int} {x y:Nv} {n m:Nat} (hp:GroundP p) (hx:Isn p x) (hy:Isn p y) (h1:BtN n x) (h2:BtN m y) (h7:7<=n + m):BtN (n + m) (Zba p x y):=by
 by_cases h0:p = 0
 .unfold Zba;rw [if_pos h0];exact Zna (h1.1.mul h2.1) (h1.2.mul h2.2)
 .exact (Zkl h0 hp.hi (Zbn hp.lo hx hy)).le h7
theorem Zuc {p:Int} {x:Nv} {n:Nat} (hp:GroundP p) (hx:Isn p x) (h:BtN n x) (h7:7<=n):BtN (n + 1) (Zba p (Zgc p (-1)) x):=by
 by_cases h0:p = 0
 .unfold Zba Zgc;rw [if_pos h0,if_pos h0];refine Zna ?_ ?_
  .exact (show Bt n (-1 * x.1) by rw [show -1 * x.1 = -x.1 by omega]; exact h.1.neg).le (by omega)
  .exact (show Bt n (1 * x.2) by rw [Int.one_mul]; exact h.2).le (by omega)
 .exact (Zkl h0 hp.hi (Zbn hp.lo (Zdd hp.lo) hx)).le (by omega)
theorem Zn3 {lo:Int} {n:Nat} {D:Addr} {fr:List (Str × Nat)} {σ:L2.St} {tt:TT} {H1:Hp} {Q:VK} (fb:Nat->Bool) (hD:H1 D = none) (hn:n<=1000)
  (h:∀ (i:Nat) H (Q:Bool->Hp->Prop),i < n->Same H1 H->(∀ H',Same H H'->Q (fb i) H')->tt (some (.int (lo + (i:Nat))) :: Zbp fr σ) H Q)
  (hQ:∀ H',Same H1 H'->H' D = some (.lst (((List.range n).filter fb).map λi=>V.int (lo + (i:Nat))))->Q (.ref D) H'):Zcg (Zb4 0) tt (Zi6 0) (Itr lo n) D (Zgr 1 fr σ) H1 Q:=by
 refine Zgo (n:=n) (λi vs H=>Same H1 H/\H D = some (.lst vs)/\vs = (((List.range i).filter fb).map λi=>V.int (lo + (i:Nat)))) ⟨Same.new hD,Zab,rfl⟩ ?_ (λvs H ⟨s,e,hv⟩=>hQ H s (by rw [e,hv]));rintro i x vs σ' H hi rfl sh ⟨s,e,rfl⟩;obtain ⟨z,rfl⟩:=sh.one;simp only [Zf6,Zb4,Jbi];refine h i H _ hi s λH' s'=>?_;have e2:(List.range (i + 1)).filter fb = (List.range i).filter fb ++ (if fb i = true then [i] else []):=by
  rw [Jc4,List.filter_append];congr 1;cases hb:fb i <;> simp [hb]
 have e':=s' _ _ e;cases hb:fb i with
 | false=>
  rw [hb] at e2;exact leaf0 (ws:=((List.range (i + 1)).filter fb).map λi=>V.int (lo + (i:Nat))) hi Sh.mk1 ⟨s.trans s',by rw [e',e2]; simp,rfl⟩
 | true=>
  rw [hb,if_pos rfl] at e2;refine ⟨_,rfl,Zo0 (ws:=((List.range (i + 1)).filter fb).map λi=>V.int (lo + (i:Nat))) hi Sh.mk1 e' (Zau ?_) ⟨(s.trans s').upd hD,by rw [Zab,e2,Jbe]; rfl,rfl⟩⟩;have:=List.length_filter_le fb (List.range i);rw [Jab];rw [Jao] at this;omega
structure IsB (p:Int) (x y:Nv):Prop where
 is:Isn p y
 fd:∀ (F:Type) [Lean.Grind.Field F],FdOk p F->(nm x:F) * nm y = 1
 bt:∀ n:Nat,7<=n->BtN n x->BtN n y
theorem Ztt {x:Nv} (hx:Isn 0 x) (h:x.1 ≠ 0):IsB 0 x (nrS x.2 x.1):=by
 have iq:=Znv (a:=x.2) h;refine ⟨iq.is,λF _ hF=>?_,λn h7 b=>iq.bt n h7 b.2 b.1⟩;rw [iq.fd F hF];have b1:=hF.bot hx;have b2:(ic x.1:F) ≠ 0:=hF.ne0 (.inl rfl) h;unfold nm
 grind
theorem Zq7 {p:Int} {x:Nv} {k:Int} (hp:Zfi p) (hx:Isn p x) (k0:0<=k) (k1:k < p) (h:k * x.1 % p = 1):IsB p x (k,1):=by
 have p1:=hp.1;have p97:=hp.2.1;refine ⟨.inr ⟨Zgy p1,k0,k1,rfl⟩,λF _ hF=>?_,λn h7 _=>⟨Zaz h7 (by show k.natAbs < 128; omega),Zaz h7 (by show (1:Int).natAbs < 128; decide)⟩⟩;have hx2:x.2 = 1:=by
  rcases hx with ⟨z,_⟩ | ⟨_,_,_,h⟩
  .omega
  .exact h
 have e:(ic (k * x.1):F) = 1:=by rw [<- hF.modF (Zj6 p1),h,Zeo]
 rw [hF.one];unfold nm;rw [hx2,Zeo];rw [Zcf] at e;have:=Zo1 (F:=F)
 grind
def Zmm:L2.Sp:=λvs H Q _=>∃ (p:Int) (va:V) (x:Nv),vs = [.int p,va]/\GroundP p/\NumV H p va x/\Isn p x/\x.1 ≠ 0/\∀ v y H',Same H H'->NumV H' p v y->IsB p x y->Q v H'
theorem ok_back {f:Addr} {fd:FuncData} (F:Fun K "_law_back" "_law_back" Zdq f fd) (T:Txt K mg C) (C_law_lowest:Cal P w K mg base "_law_lowest" 3 Zpl):FnOk P w K mg base CX0 4 f fd ["_law_p","_law_a"] Zmm:=by
 have nd:=Zie.nd;refine F.ok Zie (λvs H Q E h=>?_) (λcdv A outer s H vs Q E hr h=>?_)
 .obtain ⟨p,va,x,rfl,_⟩:=h;rfl
 .obtain ⟨p,va,x,rfl,hp,nx,ix,x0,q⟩:=h;refine ⟨_,((@Za4 _ _ _ _ _ _ _ _ (Zai Zem (pv 0) Zac (Zan _)) (~~~(Za5 C_law_lowest hr.m rfl ((Zaq<|>(pv 1)<||>Zac)<&>((Zaq<|>(pv 1)<||>Zac)<&>Zaa)))) Zao)<*>(~~~(Zat<|>(Za6 (own:=["_law_k"]) (fr:=[("_law_a",1),("_law_p",0)]) rfl (Zb0 (by kernel_rfl)) (pi_r2 rfl T.n_range (Zac<&>((pv 0)<&>Zaa))) (λ_ _ _ _=>⟨(@Zae _ _ 0 _ (show (["_law_k","_law_a","_law_p"]:List Str).Nodup by decide +kernel) rfl (Or.inl rfl) (Or.inr rfl)),(Zmo (Zai Zem (Zct<|>(Zjt<|>(pv 0)<&&>(pv 1))<&&>(pv 2)) Zac (Zan _))),(pv 0)⟩))<||>Zac))),?_⟩;walk_at "wp";refine Zdz (λhc=>?_) (λhc=>?_)
  .have hp0:p = 0:=by simpa using hc
   subst hp0;obtain ⟨ta,rfl,hta⟩:=nx.ref rfl;walk_at "wp";exact ⟨_,SqT.of hta,_,rfl,_,SqT.of hta,_,rfl,_,_,rfl,x0,λt ht=>q _ _ _ (Same.new ht) (NumV.tup rfl Zab) (Ztt ix x0)⟩
  .have hp0:¬ p = 0:=by simpa using hc
   obtain rfl:=nx.int hp0;have hp1:Zfi p:=hp.resolve_left hp0;have p1:=hp1.1;have p97:=hp1.2.1;have xr:0<=x.1/\x.1 < p:=by rcases ix with ⟨h,_⟩ | ⟨_,h,h',_⟩ <;> omega
   obtain ⟨k,k1,kp,kb⟩:=Zu2 (b:=x.1) hp1 (by rw [Jcs xr.1 xr.2]; exact x0);refine ⟨_,rfl,1,p,rfl,⟨by decide,by decide,by omega,by omega⟩,λD hD=>Zn3 (λi=>decide ((1 + (i:Nat):Int) * x.1 % p = 1)) hD (by omega) (λi H4 Q4 hi s4 q4=>?_) λH4 s4 e4=>?_⟩
   .simp only [Zbp];walk_at "wp";refine ⟨_,rfl,_,rfl,.inl ⟨by omega,by omega⟩,_,rfl,_,rfl,Zgy p1,?_⟩;exact q4 H4 (Same.refl _)
   .have hmem:k - 1 ∈ (List.range (p - 1).toNat).filter (λi=>decide ((1 + (i:Nat):Int) * x.1 % p = 1)):=by
     rw [Jdb,Ja4];refine ⟨by omega,Jbc ?_⟩;rw [show (1 + ((k - 1:Nat):Int)) = k by omega];exact kb
    generalize hL:(List.range (p - 1).toNat).filter (λi=>decide ((1 + (i:Nat):Int) * x.1 % p = 1)) = L at *;cases L with
    | nil=>simp at hmem
    | cons i L=>
     have hi:i ∈ (List.range (p - 1).toNat).filter (λi=>decide ((1 + (i:Nat):Int) * x.1 % p = 1)):=by rw [hL]; simp
     rw [Jdb,Ja4] at hi;have hib:=Ja7 hi.2;exact ⟨D,rfl,_,SqL.of e4,_,Zcx (by decide) rfl,q _ (1 + (i:Int),1) H4 s4 (NumV.of (x:=(1 + (i:Int),1)) hp0) (Zq7 hp1 ix (by omega) (by omega) hib)⟩
def Zrj (p:Int) (f g:Nat->Nv):Nat->Nv
 | 0=>Zgc p 0
 | k + 1=>Zc5 p (Zrj p f g k) (Zba p (f k) (g k))
abbrev Zt3 (p:Int) (xs ys:List Nv):Nv:=Zrj p (λk=>xs.getD k (0,1)) (λk=>ys.getD k (0,1)) xs.length
abbrev Zhn (B:Mv) (j:Nat):List Nv:=B.map λrow=>row.getD j (0,1)
noncomputable def Zdc (p:Int) (A B:Mv) (wd:Nat):Mv:=A.map λrow=>(List.range wd).map λj=>Zt3 p row (Zhn B j)
theorem Znd {p:Int} {x y:Nv} {n m:Nat} (hp:GroundP p) (hx:Isn p x) (hy:Isn p y) (h1:BtN n x) (h2:BtN m y):BtN (n + m + 7) (Zba p x y):=by
 have:=Zgs hp hx hy h1 (h2.le (show m<=m + 7 by omega)) (by omega);rwa [<- Nat.add_assoc] at this
theorem Zri {p:Int} (hp:GroundP p) {f g:Nat->Nv} {k1 k2:Nat}:∀ {n:Nat},(∀ i,i < n->Isn p (f i)/\BtN k1 (f i))->(∀ i,i < n->Isn p (g i)/\BtN k2 (g i))->Isn p (Zrj p f g n)/\BtN (7 + n * (k1 + k2 + 8)) (Zrj p f g n)
 | 0,_,_=>⟨Zdd hp.lo,by
   show BtN _ (Zgc p 0);unfold Zgc;split
   .exact ⟨Zg1 _,Zaz (by omega) (by decide)⟩
   .rw [Int.zero_emod]; exact ⟨Zg1 _,Zaz (by omega) (by decide)⟩⟩
 | n + 1,hf,hg=>by
  obtain ⟨i1,b1⟩:=Zri hp (k1:=k1) (k2:=k2) (n:=n) (λi hi=>hf i (Zfw hi)) (λi hi=>hg i (Zfw hi));obtain ⟨i2,b2⟩:=hf n (by omega);obtain ⟨i3,b3⟩:=hg n (by omega);have it:=Zbn hp.lo i2 i3;refine ⟨Zft hp.lo i1 it,?_⟩;have:=Zn9 hp i1 it b1 (Znd hp i2 i3 b2 b3) (by omega);refine this.le ?_;rw [Jb6 n 1];omega
theorem Zl2 {p:Int} {wd k:Nat} {B:Mv} (hw:∀ xs ∈ B,xs.length = wd) (g:∀ xs ∈ B,Zbc p k xs) {j:Nat} (hj:j < wd):Zbc p k (Zhn B j):=λx hx=>by
 obtain ⟨row,hr,rfl⟩:=Jap.mp hx;exact g row hr _ (Zap (by rw [hw row hr]; exact hj))
theorem Zn0 {p:Int} {F:Type} [Lean.Grind.Field F] (hp:GroundP p) (hF:FdOk p F) {f g:Nat->Nv}:∀ {n:Nat},(∀ i,i < n->Isn p (f i))->(∀ i,i < n->Isn p (g i))->Isn p (Zrj p f g n)/\(nm (Zrj p f g n):F) = sm n λi=>nm (f i) * nm (g i)
 | 0,_,_=>⟨Zdd hp.lo,by
   show (nm (Zgc p 0):F) = 0;rw [hF.intF,Zev]⟩
 | n + 1,hf,hg=>by
  obtain ⟨i1,e1⟩:=Zn0 hp hF (n:=n) (λi hi=>hf i (Zfw hi)) (λi hi=>hg i (Zfw hi));have it:=Zbn hp.lo (hf n (by omega)) (hg n (by omega));refine ⟨Zft hp.lo i1 it,?_⟩;show (nm (Zc5 p (Zrj p f g n) (Zba p (f n) (g n))):F) = sm n (λi=>nm (f i) * nm (g i)) + nm (f n) * nm (g n);rw [hF.plus i1 it,e1,hF.times (hf n (by omega)) (hg n (by omega))]
def Zpk:L2.Sp:=λvs H Q _=>∃ (t1 r1 t2 r2:Addr) (rs1 rs2:List Addr) (p:Int) (n1 m1 w2 k1 k2:Nat) (A B:Mv),vs = [.int p,.ref t1,.ref t2]/\GroundP p/\TabB H p k1 n1 m1 t1 r1 rs1 A/\TabB H p k2 m1 w2 t2 r2 rs2 B/\n1<=200/\m1<=200/\w2<=200/\7 + m1 * (k1 + k2 + 8) + k1 + k2 + 7<=134000000 /\
 ∀ t r rs H',Same H H'->TabV H' p n1 w2 t r rs (Zdc p A B w2)->Q (.ref t) H'
theorem dot_lim {k m a b:Nat} (h:k<=m) (l:7 + m * (a + b + 8) + a + b + 7<=134000000):7 + k * (a + b + 8) + (a + b + 7)<=134000000:=by
 have:=Jaz h (Jag (a + b + 8));omega
theorem ok_lpB {f:Addr} {fd:FuncData} (F:Fun K "_law_product" "_law_product" Zb8 f fd) (T:Txt K mg C) (C_law_int:Cal P w K mg base "_law_int" 1 Zoi) (C_law_add:Cal P w K mg base "_law_add" 3 (Zkx Zc5)) (C_law_mul:Cal P w K mg base "_law_mul" 3 (Zkx Zba)):FnOk P w K mg base CX0 4 f fd ["_law_p","_law_one","_law_other"] Zpk:=by
 have nd:=Zf2.nd;refine F.ok Zf2 (λvs H Q E h=>?_) (λcdv A outer s H vs Q E hr h=>?_)
 .obtain ⟨t1,r1,t2,r2,rs1,rs2,p,n1,m1,w2,k1,k2,A,B,rfl,_⟩:=h;rfl
 .obtain ⟨t1,r1,t2,r2,rs1,rs2,p,n1,m1,w2,k1,k2,A,B,rfl,hp,T1,T2,n24,m24,w24,lim,q⟩:=h;have lim2:k1 + k2<=134000000:=by omega
  have la:=T1.tv.row.1;have sA:=T1.hl;have sB:=T2.hl;refine ⟨_,((Zar (i:=3) nd rfl (Or.inl rfl) (@Zce _ _ _ _ Zaa))<*>((Zco Ja8 rfl (Zbd (Zaq<|>(pv 1)<||>Zac)) (@Zae _ _ 4 _ nd rfl (Or.inl rfl) (Or.inl rfl)) ((Zar (i:=5) nd rfl (Or.inl rfl) (@Zce _ _ _ _ Zaa))<*>((Zco Ja8 rfl (Zgb rfl T.n_range ((Zaq<|>(pv 2)<||>Zac)<&>Zaa)) (@Zae _ _ 6 _ nd rfl (Or.inl rfl) (Or.inl rfl)) ((Zar (i:=7) nd rfl (Or.inl rfl) (Za5 C_law_int hr.m rfl ((pv 0)<&>(Zac<&>Zaa))))<*>((Zco Ja8 rfl (Zgb rfl T.n_range ((Zaq<|>(pv 1)<||>Zac)<&>Zaa)) (@Zae _ _ 8 _ nd rfl (Or.inl rfl) (Or.inl rfl)) (@Zas _ _ _ (Zar (i:=7) nd rfl (Or.inl rfl) (Za5 C_law_add hr.m rfl ((pv 0)<&>((pv 7)<&>((Za5 C_law_mul hr.m rfl ((pv 0)<&>((Zat<|>(pv 4)<||>(pv 8))<&>((Zat<|>(Zat<|>(Zaq<|>(pv 2)<||>Zac)<||>(pv 8))<||>(pv 6))<&>Zaa))))<&>Zaa)))))))<*>(@Zas _ _ _ (Zdx (Zhm Jbk Jbt Jbu Zb1 (pv 5) ((pv 7)<&>Zaa)))))))<*>(@Zas _ _ _ (Zdx (Zhm Jbk Jbt Jbu Zb1 (pv 3) ((pv 5)<&>Zaa)))))))<*>(~~~(@Za9 _ _ _ _ _ ((Zaq<|>(pv 1)<||>Zac)<&>((Zaq<|>(pv 2)<||>Zac)<&>((pv 3)<&>Zaa))))))),?_⟩;walk_at "wp";refine ⟨by decide,λR hR=>?_⟩;have sR:=Same.new (o:=.lst []) hR;refine ⟨_,rfl,t1,_,2,_,rfl,rfl,SqT.of (sR _ _ T1.tv.tup),rfl,r1,rfl,⟨_,SqL.of (sR _ _ T1.tv.lst)⟩,Zfu (xs:=rs1.map V.ref) (λi σ H3=>∃ (v4 v5 v6 v7 v8:Option V) (rs:List Addr),σ = [some (.int p),some (.ref t1),some (.ref t2),some (.ref R),v4,v5,v6,v7,v8]/\Same H H3/\H3 R = some (.lst (rs.map V.ref))/\R ∉ rs/\All2 (RowV H3 p) rs ((Zdc p A B w2).take i))
   ⟨none,none,none,none,none,[],rfl,sR,Zab,by simp,by rw [List.take_zero]; exact All2.nil⟩ (λi σ H3 _ ⟨_,_,_,_,_,_,_,s3,_⟩=>SqL.of (s3 _ _ T1.tv.lst)) ?_ ?_⟩
  .rintro i x σ H3 hi ⟨v4,v5,v6,v7,v8,rs,rfl,s3,h3,nR,a3⟩;refine Zt6 λD1 hD1=>?_;obtain ⟨row,er,a,rfl,rv⟩:=(Zay T1.tv.row).at' hi;have hrow:=Jae er;have wr:=T1.hw row hrow;have gr:=T1.gd row hrow;have lA:i < A.length:=(Jah.mp er).1;have ep:(Zdc p A B w2)[i]? = some ((List.range w2).map λj=>Zt3 p row (Zhn B j)):=by unfold Zdc; rw [Jad,er]; rfl
   have l3:=a3.1;rw [Jbf] at l3;walk_at "wp";refine ⟨by decide,λb hb=>?_⟩;have s4:=Same.new (o:=.lst []) hb;refine ⟨_,rfl,t2,_,1,_,rfl,rfl,SqT.of ((s3.trans s4) _ _ T2.tv.tup),rfl,(w2:Int),rfl,lo62 _,hi62 (Jat w24 (by decide)),Zch (λj σ H5=>∃ (v6 v7 v8:Option V) (vs:List V),σ = [some (.int p),some (.ref t1),some (.ref t2),some (.ref R),some (.ref a),some (.ref b),v6,v7,v8]/\Same H3 H5/\H5 b = some (.lst vs)/\All2 (NumV H5 p) vs ((List.range j).map λj=>Zt3 p row (Zhn B j)))
    ⟨v6,v7,v8,[],rfl,s4,Zab,All2.nil⟩ ?_ ?_⟩
   .rintro j σ H5 hj ⟨u6,u7,u8,vs,rfl,s5,h5,a5⟩;refine Zt6 λD2 hD2=>?_;have hj:j < w2:=hj;have s05:=s3.trans s5;have l5:=a5.1;rw [Jab,Jao] at l5;have gc:Zbc p k2 (Zhn B j):=Zl2 T2.hw T2.gd hj;walk_at "wp";refine ⟨p,0,rfl,hp,λn0 H6 s6 hn0=>?_⟩;rw [show Zgc p 0 = Zrj p (λk=>row.getD k (0,1)) (λk=>(Zhn B j).getD k (0,1)) 0 from rfl] at hn0;refine ⟨_,rfl,t1,_,1,_,rfl,rfl,SqT.of ((s05.trans s6) _ _ T1.tv.tup),rfl,(m1:Int),rfl,lo62 _,hi62 (Jat m24 (by decide)),Zch (λk σ H7=>∃ (n v8:V),σ = [some (.int p),some (.ref t1),some (.ref t2),some (.ref R),some (.ref a),some (.ref b),some (.int (0 + (j:Int))),some n,if k = 0 then u8 else some v8]/\Same H5 H7/\NumV H7 p n (Zrj p (λk=>row.getD k (0,1)) (λk=>(Zhn B j).getD k (0,1)) k))
     ⟨n0,n0,rfl,s6,hn0⟩ ?_ ?_⟩
    .rintro k σ H7 hk ⟨n,v8',rfl,s7,hn⟩;refine Zt6 λD3 hD3=>?_;have hk:k < m1:=hk;have s07:=s05.trans s7;have hk1:k < row.length:=Zb2 hk wr;have ex:row[k]? = some row[k]:=Jaa hk1;have hkB:k < B.length:=Zb2 hk sB;have eB:B[k]? = some B[k]:=Jaa hkB;have wB:=T2.hw _ (Jaw hkB);have hjB:j < (B[k]).length:=Zb2 hj wB;have ey:(B[k])[j]? = some ((B[k])[j]'hjB):=Jaa _;have ecl:(Zhn B j)[k]? = some ((B[k])[j]'hjB):=by rw [Jad,eB]; show some ((B[k]).getD j (0,1)) = _; rw [Zah ey]
     obtain ⟨xsv,hx1,hx2⟩:=rv.same s07;obtain ⟨vx,evx,nvx⟩:=hx2.at ex;obtain ⟨bk,ebk,ysv,hy1,hy2⟩:=(T2.tv.same s07).row.at eB;obtain ⟨vy,evy,nvy⟩:=hy2.at ey;have gx:=gr _ (Jaw hk1);have gy:=gc _ (Jae ecl);have fi:∀ i,i < k->Isn p (row.getD i (0,1))/\BtN k1 (row.getD i (0,1)):=λi hi=>gr _ (Zap (Jej hi hk1));have gi:∀ i,i < k->Isn p ((Zhn B j).getD i (0,1))/\BtN k2 ((Zhn B j).getD i (0,1)):=λi hi=>gc _ (Zap (by rw [Jab]; exact Jej hi hkB));obtain ⟨isd,bdd⟩:=Zri hp (n:=k) fi gi;walk_at "wp";refine ⟨_,SqL.of hx1,vx,atI_z evx,_,SqT.of (s07 _ _ T2.tv.tup),_,rfl,_,rfl,_,SqL.of (s07 _ _ T2.tv.lst),_,atI_rz ebk,_,rfl,_,SqL.of hy1,vy,atI_z evy,p,vx,vy,_,_,rfl,hp,⟨nvx,nvy,gx.1,gy.1,k1,k2,gx.2.1,gx.2.2,gy.2.1,gy.2.2,lim2⟩,λm H8 s8 hm=>?_⟩;have it:=Zbn hp.lo gx.1 gy.1;have bt:BtN (k1 + k2 + 7) (Zba p row[k] ((B[k])[j]'hjB)):=Znd hp gx.1 gy.1 gx.2 gy.2;refine ⟨p,n,m,_,_,rfl,hp,⟨hn.same s8,hm,isd,it,_,_,bdd.1,bdd.2,bt.1,bt.2,dot_lim (Jcd hk) lim⟩,λn' H9 s9 hn'=>?_⟩;subst hD3;refine ⟨n',.int (0 + (k:Int)),?_,(s7.trans s8).trans s9,?_⟩
     .simp
     .show NumV H9 p n' (Zc5 p _ (Zba p (row.getD k (0,1)) ((Zhn B j).getD k (0,1))));rw [Zah ex,Zah ecl];exact hn'
    .rintro σ H7 ⟨n,v8',rfl,s7,hn⟩;have h57:=s7 _ _ h5;walk_at "wp";refine ⟨.inl ⟨rfl,_,SqL.of h57⟩,_,h57,Zau (Zqx l5 (Jcd (Ja0 hj (Jat w24 (by decide))))),?_⟩;subst hD2;refine ⟨_,_,_,_,rfl,?_,Zab,?_⟩
     .exact (s5.trans s7).upd hb
     .rw [Jc4,Jbe];rw [Jau,<- wr] at hn;exact (a5.mono λ_ _ k=>(k.same s7).put h57).app (All2.one (hn.put h57))
   .rintro σ H5 ⟨u6,u7,u8,vs,rfl,s5,h5,a5⟩;have h35:=s5 _ _ h3;have nb:b ≠ R:=(Zaj h3 hb).symm;walk_at "wp";refine ⟨.inl ⟨rfl,_,SqL.of h35⟩,_,h35,Zau (by rw [Jab]; exact oz108 n24 sA lA l3),?_⟩;subst hD1;refine ⟨_,_,_,_,_,rs ++ [b],rfl,(s3.trans s5).upd hR,by rw [Zab,Zcp],λz=>?_,?_⟩
    .rcases Jal.mp z with h | h
     .exact nR h
     .exact nb (Ja1.mp h).symm
    .rw [Jfe,ep];exact (a3.monoM λc x hc k=>(k.same s5).put h35 (λz=>nR (z ▸ hc))).app (All2.one (RowV.put ⟨vs,h5,a5⟩ h35 nb))
  .rintro σ H3 ⟨v4,v5,v6,v7,v8,rs,rfl,s3,h3,nR,a3⟩;rw [Jab,la,Jds (by unfold Zdc; rw [Jab]; omega)] at a3;walk_at "wp";refine ⟨_,SqT.of (s3 _ _ T1.tv.tup),_,rfl,_,SqT.of (s3 _ _ T2.tv.tup),_,rfl,by decide,λt ht=>?_⟩;have s5:=Same.new (o:=.tup [.int n1,.int w2,.ref R]) ht;exact q t R rs _ (s3.trans s5) ⟨Zab,s5 _ _ h3,a3.mono λ_ _ q=>q.same s5,nR⟩
end
end Pf
namespace Pf
open PySem L2 L3 PyProof.Rows
section
variable {p:Int} {F:Type} [Lean.Grind.Field F]
theorem Zcw {α:Type} {L:List α} {k i:Nat} {v d:α} (hk:k < L.length):(L.set k v).getD i d = if i = k then v else L.getD i d:=by
 rw [Jac,Jcu,Jac];by_cases h:i = k
 .subst h;rw [if_pos rfl,if_pos rfl,if_pos hk];rfl
 .rw [if_neg (λz=>h z.symm),if_neg h]
theorem Zme {L L':List (Nat->F)} (h1:∀ i,i < L.length->SpL L' (at' L i)) (h2:∀ i,i < L'.length->SpL L (at' L' i)):SpEq L L':=by
 refine ⟨λv hv=>?_,λv hv=>?_⟩
 .obtain ⟨i,hi,e⟩:=Zbs hv zv;have:=h1 i hi;rwa [show at' L i = v from e] at this
 .obtain ⟨i,hi,e⟩:=Zbs hv zv;have:=h2 i hi;rwa [show at' L' i = v from e] at this
theorem Zof {L L':List (Nat->F)} {k:Nat} (hl:L'.length = L.length) (hk:k < L.length) (a:F) (ha:a ≠ 0) (h:∀ i,i < L.length->i ≠ k->at' L' i = at' L i) (e:∀ j,at' L' k j = a * at' L k j):SpEq L' L:=by
 refine Zme (λi hi=>?_) (λi hi=>?_)
 .by_cases hik:i = k
  .subst hik;rw [show at' L' i = λj=>a * at' L i j from funext e];exact Sp.smul a (.mem (Zbz hk))
  .rw [h i (Ze2 hl hi) hik];exact .mem (Zbz (Ze2 hl hi))
 .by_cases hik:i = k
  .subst hik;rw [show at' L i = λj=>(1 / a) * at' L' i j from funext λj=>by rw [e j]; show at' L i j = _; grind];exact Sp.smul _ (.mem (Zbz (Zck hl hi)))
  .rw [<- h i hi hik];exact .mem (Zbz (Zck hl hi))
theorem Zpf {L L':List (Nat->F)} {k d:Nat} (hl:L'.length = L.length) (hk:k < L.length) (hd:d < L.length) (hne:d ≠ k) (b:F) (h:∀ i,i < L.length->i ≠ k->at' L' i = at' L i) (e:∀ j,at' L' k j = at' L k j + b * at' L d j):SpEq L' L:=by
 refine Zme (λi hi=>?_) (λi hi=>?_)
 .by_cases hik:i = k
  .subst hik;rw [show at' L' i = λj=>1 * at' L i j + b * at' L d j from funext λj=>by rw [e j]; show at' L i j + _ = _; grind];exact .comb 1 b (.mem (Zbz hk)) (.mem (Zbz hd))
  .rw [h i (Ze2 hl hi) hik];exact .mem (Zbz (Ze2 hl hi))
 .by_cases hik:i = k
  .subst hik;rw [show at' L i = λj=>1 * at' L' i j + (-b) * at' L' d j from funext λj=>by rw [h d hd hne,e j]; show at' L i j = _; grind];exact .comb 1 (-b) (.mem (Zbz (Zck hl hi))) (.mem (Zbz (Zck hl hd)))
  .rw [<- h i hi hik];exact .mem (Zbz (Zck hl hi))
theorem Zpe {L L':List (Nat->F)} {s d:Nat} (hl:L'.length = L.length) (hs:s < L.length) (hd:d < L.length) (h:∀ i,i < L.length->at' L' i = if i = d then at' L s else if i = s then at' L d else at' L i):SpEq L' L:=by
 refine Zme (λi hi=>?_) (λi hi=>?_)
 .rw [h i (Ze2 hl hi)];split
  .exact .mem (Zbz hs)
  .split
   .exact .mem (Zbz hd)
   .exact .mem (Zbz (Ze2 hl hi))
 .by_cases h1:i = d
  .subst h1;have e:=h s hs;by_cases h2:s = i
   .rw [if_pos h2,h2] at e;rw [<- e];exact .mem (Zbz (by omega))
   .rw [if_neg h2,if_pos rfl] at e;rw [<- e];exact .mem (Zbz (Zck hl hs))
  .by_cases h2:i = s
   .subst h2;have e:=h d hd;rw [if_pos rfl] at e;rw [<- e];exact .mem (Zbz (Zck hl hd))
   .have e:=h i hi;rw [if_neg h1,if_neg h2] at e;rw [<- e];exact .mem (Zbz (Zck hl hi))
structure LrF (F:Type) [Lean.Grind.Field F] (n c:Nat) (M0 M:Mv) (pl:List Nat):Prop where
 ml:M.length = n
 dl:pl.length<=n
 asc:∀ i j,i < j->j < pl.length->pl.getD i 0 < pl.getD j 0
 lt:∀ i,i < pl.length->pl.getD i 0 < c
 one:∀ i,i < pl.length->(vN (M.getD i []) (pl.getD i 0):F) = 1
 col:∀ i k,i < n->k < pl.length->i ≠ k->(vN (M.getD i []) (pl.getD k 0):F) = 0
 low:∀ i j,i < pl.length->j < pl.getD i 0->(vN (M.getD i []) j:F) = 0
 zer:∀ i j,pl.length<=i->i < n->j < c->(vN (M.getD i []) j:F) = 0
 sp:SpEq (F:=F) (M.map vN) (M0.map vN)
theorem LrF.start {n:Nat} {M:Mv} (h:M.length = n):LrF F n 0 M M []:=
 ⟨h,Jb3 _,λi j _ h=>by simp at h,λi h=>by simp at h,λi h=>by simp at h,λi k _ h=>by simp at h,λi j h=>by simp at h,λi j _ _ h=>by omega,SpEq.refl _⟩
theorem LrF.skip {n c:Nat} {M0 M:Mv} {pl:List Nat} (h:LrF F n c M0 M pl) (hz:∀ i,pl.length<=i->i < n->(vN (M.getD i []) c:F) = 0):LrF F n (c + 1) M0 M pl:=
 ⟨h.ml,h.dl,h.asc,λi hi=>Jcl (h.lt i hi),h.one,h.col,h.low,λi j h1 h2 h3=>by
  by_cases e:j = c
  .subst e; exact hz i h1 h2
  .exact h.zer i j h1 h2 (Zmp h3 e),h.sp⟩
structure LrG (F:Type) [Lean.Grind.Field F] (n c k:Nat) (M0 M:Mv) (pl:List Nat):Prop where
 ml:M.length = n
 dl:pl.length < n
 asc:∀ i j,i < j->j < pl.length->pl.getD i 0 < pl.getD j 0
 lt:∀ i,i < pl.length->pl.getD i 0 < c
 one:∀ i,i < pl.length->(vN (M.getD i []) (pl.getD i 0):F) = 1
 col:∀ i k,i < n->k < pl.length->i ≠ k->(vN (M.getD i []) (pl.getD k 0):F) = 0
 low:∀ i j,i < pl.length->j < pl.getD i 0->(vN (M.getD i []) j:F) = 0
 zer:∀ i j,pl.length<=i->i < n->j < c->(vN (M.getD i []) j:F) = 0
 pv:(vN (M.getD pl.length []) c:F) = 1
 cl:∀ i,i < k->i < n->i ≠ pl.length->(vN (M.getD i []) c:F) = 0
 sp:SpEq (F:=F) (M.map vN) (M0.map vN)
theorem Zcv {M:Mv} {i:Nat} (h:i < M.length):at' (M.map (vN (F:=F))) i = vN (M.getD i []):=Ziy h
theorem LrF.lead {n c s:Nat} {M0 M M':Mv} {pl:List Nat} {a:F} (h:LrF F n c M0 M pl) (hs:pl.length<=s) (hsn:s < n) (ha:(vN (M.getD s []) c:F) * a = 1) (hl:M'.length = n)
  (e1:∀ j,(vN (M'.getD pl.length []) j:F) = a * vN (M.getD s []) j) (e2:∀ i,i < n->i ≠ pl.length->(vN (M'.getD i []):Nat->F) = if i = s then vN (M.getD pl.length []) else vN (M.getD i [])):LrG F n c 0 M0 M' pl:=by
 have dn:pl.length < n:=by omega
 have ml:=h.ml;have a0:a ≠ 0:=λz=>by
  rw [z] at ha;exact Zo1 (F:=F) (by rw [<- ha]; grind)
 have eq:∀ i,i < pl.length->(vN (M'.getD i []):Nat->F) = vN (M.getD i []):=λi hi=>by rw [e2 i (oz83 dn hi) (by omega),if_neg (by omega)]
 refine ⟨hl,dn,h.asc,h.lt,λi hi=>by rw [eq i hi]; exact h.one i hi,λi k hi hk hne=>?_,λi j hi hj=>by rw [eq i hi]; exact h.low i j hi hj,λi j h1 h2 h3=>?_,?_,λi hi=>by omega,?_⟩
 .by_cases hd:i = pl.length
  .rw [hd,e1,h.col s k hsn hk (by omega)]
   grind
  .rw [e2 i hi hd];split
   .exact h.col _ k dn hk (by omega)
   .exact h.col i k hi hk hne
 .by_cases hd:i = pl.length
  .rw [hd,e1,h.zer s j hs hsn h3]
   grind
  .rw [e2 i h2 hd];split
   .exact h.zer _ j (Jag _) dn h3
   .exact h.zer i j h1 h2 h3
 .rw [e1]
  grind
 .-- swap,then divide
  refine SpEq.trans ?_ h.sp;have hM:(M.map (vN (F:=F))).length = n:=by rw [Jab]; exact ml
  have step1:=Zof (L:=(((M.set s (M.getD pl.length [])).set pl.length (M.getD s [])).map (vN (F:=F)))) (L':=M'.map vN) (k:=pl.length) (by rw [Jab,Jab,Jay,Jay]; exact Zs8 hl ml) (by rw [Jab,Jay,Jay]; exact Zhu dn ml) a a0
   (λi hi hne=>by
    rw [Jab,Jay,Jay] at hi;rw [Zcv (oz82 hl ml hi),Zcv (by rw [Jay,Jay]; exact oz61 hi),e2 i (Ze2 ml hi) hne,Zcw (by rw [Jay]; exact Zhu dn ml),if_neg hne,Zcw (Zhu hsn ml)];split <;> rfl)
   (λj=>by
    rw [Zcv (Zck hl dn),Zcv (by rw [Jay,Jay]; exact Zhu dn ml),e1,Zcw (by rw [Jay]; exact Zhu dn ml),if_pos rfl])
  refine step1.trans (Zpe (s:=s) (d:=pl.length) (by simp) (Zhu hsn hM) (Zhu dn hM) λi hi=>?_);rw [hM] at hi;rw [Zcv (by rw [Jay,Jay]; exact Zck ml hi),Zcw (by rw [Jay]; exact Zhu dn ml),Zcw (Zhu hsn ml),Zcv (Zhu hsn ml),Zcv (Zhu dn ml),Zcv (Zck ml hi)];split
  .rfl
  .split <;> rfl
theorem LrG.skip {n c k:Nat} {M0 M:Mv} {pl:List Nat} (h:LrG F n c k M0 M pl) (hz:k ≠ pl.length->k < n->(vN (M.getD k []) c:F) = 0):LrG F n c (k + 1) M0 M pl:=
 ⟨h.ml,h.dl,h.asc,h.lt,h.one,h.col,h.low,h.zer,h.pv,λi h1 h2 h3=>by
  by_cases e:i = k
  .subst e; exact hz h3 h2
  .exact h.cl i (Zmp h1 e) h2 h3,h.sp⟩
theorem LrG.take {n c k:Nat} {M0 M M':Mv} {pl:List Nat} (h:LrG F n c k M0 M pl) (hk:k < n) (hkd:k ≠ pl.length) (hl:M'.length = n) (e1:∀ j,(vN (M'.getD k []) j:F) = vN (M.getD k []) j + (-vN (M.getD k []) c) * vN (M.getD pl.length []) j) (e2:∀ i,i < n->i ≠ k->M'.getD i [] = M.getD i []):LrG F n c (k + 1) M0 M' pl:=by
 have ml:=h.ml;have dn:=h.dl;have zd:∀ j,j < c->(vN (M.getD pl.length []) j:F) = 0:=λj hj=>h.zer _ j (Jag _) dn hj;refine ⟨hl,dn,h.asc,h.lt,λi hi=>?_,λi l hi hl' hne=>?_,λi j hi hj=>?_,λi j h1 h2 h3=>?_,?_,λi h1 h2 h3=>?_,?_⟩
 .by_cases hik:i = k
  .subst hik;rw [e1,zd _ (h.lt i hi),h.one i hi]
   grind
  .rw [e2 i (oz83 dn hi) hik]; exact h.one i hi
 .by_cases hik:i = k
  .subst hik;rw [e1,zd _ (h.lt l hl'),h.col i l hi hl' hne]
   grind
  .rw [e2 i hi hik]; exact h.col i l hi hl' hne
 .by_cases hik:i = k
  .subst hik;rw [e1,zd j (by have:=h.lt i hi; omega),h.low i j hi hj]
   grind
  .rw [e2 i (oz83 dn hi) hik]; exact h.low i j hi hj
 .by_cases hik:i = k
  .subst hik;rw [e1,zd j h3,h.zer i j h1 h2 h3]
   grind
  .rw [e2 i h2 hik]; exact h.zer i j h1 h2 h3
 .rw [e2 _ dn (Jcg hkd)]; exact h.pv
 .by_cases hik:i = k
  .subst hik;rw [e1,h.pv]
   grind
  .rw [e2 i h2 hik]; exact h.cl i (Zmp h1 hik) h2 h3
 .refine SpEq.trans (Zpf (k:=k) (d:=pl.length) (by rw [Jab,Jab]; exact Zs8 hl ml) (by rw [Jab]; exact Zhu hk ml) (by rw [Jab]; exact Zck ml dn) (Jcg hkd) (-vN (M.getD k []) c) (λi hi hne=>?_) λj=>?_) h.sp
  .rw [Jab] at hi;rw [Zcv (oz82 hl ml hi),Zcv hi,e2 i (Ze2 ml hi) hne]
  .rw [Zcv (Zhu hk hl),Zcv (Zhu hk ml),Zcv (Zck ml dn)];exact e1 j
theorem LrG.next {n c:Nat} {M0 M:Mv} {pl:List Nat} (h:LrG F n c n M0 M pl):LrF F n (c + 1) M0 M (pl ++ [c]):=by
 have dn:=h.dl;have gl:∀ {i:Nat},i < pl.length->(pl ++ [c]).getD i 0 = pl.getD i 0:=λ{i} hi=>by rw [Zda,if_pos hi]
 have gd:(pl ++ [c]).getD pl.length 0 = c:=by rw [Zda,if_neg (by omega),if_pos rfl]
 have ll:(pl ++ [c]).length = pl.length + 1:=by rw [Jam]; rfl
 refine ⟨h.ml,by omega,λi j hij hj=>?_,λi hi=>?_,λi hi=>?_,λi k hi hk hne=>?_,λi j hi hj=>?_,λi j h1 h2 h3=>?_,h.sp⟩
 .rw [ll] at hj;rw [gl (oz133 hij hj)];by_cases e:j < pl.length
  .rw [gl e]; exact h.asc i j hij e
  .rw [show j = pl.length by exact oz12 hj e,gd]; exact h.lt i (oz133 hij hj)
 .rw [ll] at hi;by_cases e:i < pl.length
  .rw [gl e]; exact Jcl (h.lt i e)
  .rw [show i = pl.length by exact oz12 hi e,gd]; omega
 .rw [ll] at hi;by_cases e:i < pl.length
  .rw [gl e]; exact h.one i e
  .rw [show i = pl.length by exact oz12 hi e,gd]; exact h.pv
 .rw [ll] at hk;by_cases e:k < pl.length
  .rw [gl e]; exact h.col i k hi e hne
  .have ek:k = pl.length:=by exact oz12 hk e
   rw [ek,gd]; exact h.cl i hi hi (oz120 hk hne e)
 .rw [ll] at hi;by_cases e:i < pl.length
  .rw [gl e] at hj; exact h.low i j e hj
  .have ei:i = pl.length:=by exact oz12 hi e
   rw [ei,gd] at hj;rw [ei];exact h.zer _ j (Jag _) dn hj
 .rw [ll] at h1;by_cases e:j = c
  .subst e; exact h.cl i h2 h2 (by omega)
  .exact h.zer i j (by omega) h2 (Zmp h3 e)
theorem LrF.rr {n wd:Nat} {M0 M:Mv} {pl:List Nat} (h:LrF F n wd M0 M pl):RR (M.map (vN (F:=F))) wd pl.length (λi=>pl.getD i 0):=by
 have ml:=h.ml;have dl:=h.dl;refine ⟨by rw [Jab]; omega,h.lt,λi k h1 h2=>h.asc i k h1 h2,λi k hi hk=>?_,λi j hi hj=>?_,λi j hi hi2 hj=>?_⟩
 .rw [Zcv (by omega)];show _ = if i = k then (1:F) else 0
  by_cases e:i = k
  .subst e; rw [if_pos rfl]; exact h.one i hi
  .rw [if_neg e]; exact h.col i k (Zr4 dl hi) hk e
 .rw [Zcv (by omega)];exact h.low i j hi hj
 .rw [Jab] at hi2;rw [Zcv hi2];exact h.zer i j hi (Ze2 ml hi2) hj
end
end Pf
namespace Pf
open PySem L2 L3 PyProof.Rows
section
variable {P:Program} {w:World} {K:PySem.W.Frag} {mg:Str->Option Value} {base:Heap} {C PL cL:Addr}
theorem Zs2 {H:Hp} {t u:Addr} {a b c d:Int} {Q:VK} (neg:Bool) (ht:H t = some (.tup [.int a,.int b])) (hu:H u = some (.tup [.int c,.int d])) (q:Q (.bl (if neg then !(decide (a = c) && decide (b = d)) else (decide (a = c) && decide (b = d)))) H):Zsu K neg (.ref t) (.ref u) H Q:=by
 have e:∀ i j:Int,eqV (.int i) (.int j) = decide (i = j):=λi j=>by simp [eqV,Bool.beq_eq_decide_eq]
 refine ⟨t,u,_,_,[decide (a = c),decide (b = d)],rfl,rfl,SqT.of ht,SqT.of hu,⟨rfl,rfl,λj x y z e1 e2 e3=>?_⟩,?_⟩
 .match j,e1,e2,e3 with
  | 0,e1,e2,e3=>
   cases e1; cases e2; cases e3;have:=EqD.flat (K:=K) (H:=H) (n:=6) (x:=.int a) (y:=.int c) rfl rfl;rw [e] at this;exact this
  | 1,e1,e2,e3=>
   cases e1; cases e2; cases e3;have:=EqD.flat (K:=K) (H:=H) (n:=6) (x:=.int b) (y:=.int d) rfl rfl;rw [e] at this;exact this
  | j + 2,e1,e2,e3=>cases e1
 .simpa using q
theorem Zmv {H:Hp} {p:Int} {v u:V} {x y:Nv} {Q:VK} (h:NumV H p v x) (h':NumV H p u y) (hx:Isn p x) (hy:Isn p y) (q:Q (.bl (decide (x ≠ y))) H):rNeN K v u H Q:=by
 by_cases hp:p = 0
 .obtain ⟨t,rfl,ht⟩:=h.ref hp;obtain ⟨t',rfl,ht'⟩:=h'.ref hp;refine .inr (Zs2 true ht ht' ?_);have:(if true = true then !(decide (x.1 = y.1) && decide (x.2 = y.2)) else (decide (x.1 = y.1) && decide (x.2 = y.2))) = decide (x ≠ y):=by
   rw [if_pos rfl,<- Bool.decide_and,<- decide_not];exact decide_eq_decide.mpr (not_congr Prod.ext_iff.symm)
  rw [this];exact q
 .obtain rfl:=h.int hp;obtain rfl:=h'.int hp;refine .inl ⟨rfl,?_⟩;have:(!decide (V.int x.1 = V.int y.1)) = decide (x ≠ y):=by
   rw [<- decide_not];have h2:x.2 = y.2:=by
    rcases hx with ⟨z,_⟩ | ⟨_,_,_,h1⟩
    .exact absurd z hp
    .rcases hy with ⟨z,_⟩ | ⟨_,_,_,h2⟩
     .exact absurd z hp
     .rw [h1,h2]
   refine decide_eq_decide.mpr (not_congr ?_);rw [Prod.ext_iff,V.int.injEq];exact ⟨λh=>⟨h,h2⟩,λh=>h.1⟩
  rw [this];exact q
noncomputable def lb (p:Int) (k c:Nat):Nat:=if p = 0 then (k + 1) * 4 ^ c - 1 else 7
structure RowsV (H:Hp) (p:Int) (b n wd:Nat) (r:Addr) (rs:List Addr) (M:Mv):Prop where
 lst:H r = some (.lst (rs.map V.ref))
 row:All2 (RowV H p) rs M
 nin:r ∉ rs
 hl:M.length = n
 hw:∀ xs ∈ M,xs.length = wd
 gd:∀ xs ∈ M,Zbc p b xs
theorem RowsV.same {H H':Hp} {p:Int} {b n wd:Nat} {r:Addr} {rs:List Addr} {M:Mv} (h:RowsV H p b n wd r rs M) (s:Same H H'):RowsV H' p b n wd r rs M:=⟨s _ _ h.lst,h.row.mono λ_ _ k=>k.same s,h.nin,h.hl,h.hw,h.gd⟩
theorem RowsV.at {H:Hp} {p:Int} {b n wd:Nat} {r:Addr} {rs:List Addr} {M:Mv} (h:RowsV H p b n wd r rs M) {i c:Nat} (hi:i < n) (hc:c < wd):∃ (a:Addr) (vs:List V) (v:V),rs[i]? = some a/\a ≠ r/\H a = some (.lst vs)/\vs.length = wd/\All2 (NumV H p) vs (M.getD i [])/\vs[c]? = some v/\NumV H p v ((M.getD i []).getD c (0,1))/\Isn p ((M.getD i []).getD c (0,1))/\BtN b ((M.getD i []).getD c (0,1)):=by
 have hl:=h.hl;have e:M[i]? = some (M.getD i []):=by rw [Za0 (Zhu hi hl)]; exact Jaa _
 obtain ⟨a,ea,vs,hv,al⟩:=h.row.at e;have hm:M.getD i [] ∈ M:=Jae e;have wl:=h.hw _ hm;have vl:=al.1;have ec:(M.getD i [])[c]? = some ((M.getD i []).getD c (0,1)):=by rw [Za0 (show c < (M.getD i []).length by exact Zhu hc wl)]; exact Jaa _
 obtain ⟨v,ev,nv⟩:=al.at ec;have g:=h.gd _ hm _ (Jae ec);exact ⟨a,vs,v,ea,λz=>h.nin (z ▸ Jae ea),hv,by omega,al,ev,nv,g.1,g.2⟩
theorem RowsV.set {H:Hp} {p:Int} {b n wd:Nat} {r:Addr} {rs:List Addr} {M:Mv} (h:RowsV H p b n wd r rs M) {k:Nat} {a:Addr} {xs:List Nv} (hk:k < n) (ha:RowV H p a xs) (hr:a ≠ r) (hx:xs.length = wd) {b':Nat} (hb:∀ ys ∈ M.set k xs,Zbc p b' ys):RowsV (upd H r (.lst ((rs.set k a).map V.ref))) p b' n wd r (rs.set k a) (M.set k xs):=by
 refine ⟨Zab,(h.row.set k ha).monoM λc ys hc q=>q.put h.lst (λz=>?_),λz=>?_,by rw [Jay]; exact h.hl,λys hy=>?_,hb⟩
 .rcases Jar hc with h1 | h1
  .exact h.nin (z ▸ h1)
  .exact hr (h1 ▸ z)
 .rcases Jar z with h1 | h1
  .exact h.nin h1
  .exact hr h1.symm
 .rcases Jar hy with h1 | h1
  .exact h.hw ys h1
  .rw [h1]; exact hx
theorem cut2 {A B X:TS} {D:Ends} {σ:L2.St} {H:Hp} (h:∀ X',X' = X->Zi7 A (Zi7 B X') D σ H):Zi7 A (Zi7 B X) D σ H:=h X rfl
theorem Zgz {p:Int} {k c:Nat} (h7:7<=k):(p = 0->4 * lb p k c + 2<=lb p k (c + 1))/\7<=lb p k c/\lb p k c<=lb p k (c + 1):=by
 unfold lb;by_cases h:p = 0
 .rw [if_pos h,if_pos h,Jd9,<- Jdm];have:(k + 1) * 1<=(k + 1) * 4 ^ c:=Jaz (Jag _) (Nat.pos_of_ne_zero (by simp));exact ⟨λ_=>by omega,oz66 h7 this,oz131⟩
 .rw [if_neg h,if_neg h];exact ⟨λz=>absurd z h,Jag _,Jag _⟩
theorem lb_mono {p:Int} {k c d:Nat} (h7:7<=k) (h:c<=d):lb p k c<=lb p k d:=by
 induction d with
 | zero=>rw [show c = 0 by omega]; exact Jag _
 | succ d ih=>
  by_cases e:c = d + 1
  .rw [e]; exact Jag _
  .exact Jat (ih (oz53 h e)) (Zgz h7).2.2
theorem Znx {p:Int} {b:Nat} {xs:List Nv} (h0:p ≠ 0) (p97:p<=97) (h7:7<=b) (h:∀ x ∈ xs,Isn p x):Zbc p b xs:=λx hx=>⟨h x hx,(Zkl h0 p97 (h x hx)).le h7⟩
theorem isn_ne {p:Int} {x:Nv} (hx:Isn p x) (h:x ≠ (0,1)):x.1 ≠ 0:=λz=>by
 refine h (Jfh z ?_);rcases hx with ⟨_,h1,h2⟩ | ⟨_,_,_,h1⟩
 .rw [z] at h2;simp [Int.gcd] at h2;show x.2 = 1;omega
 .exact h1
theorem map_at {f:Nv->Nv} {xs:List Nv} {j:Nat} (h:j < xs.length):(xs.map f).getD j (0,1) = f (xs.getD j (0,1)):=by
 rw [Jac,Jad,Jaa h,Za0 h];rfl
abbrev Zh6 (p:Int) (y:Nv) (row:List Nv):List Nv:=row.map λx=>Zba p y x
abbrev Zsx (p:Int) (l:Nv) (row lead:List Nv):List Nv:=(List.range row.length).map λj=>Zc5 p (row.getD j (0,1)) (Zba p l (lead.getD j (0,1)))
theorem Zsq {p:Int} {F:Type} [Lean.Grind.Field F] (hF:FdOk p F) {y:Nv} {row:List Nv} (hy:Isn p y) (hr:∀ x ∈ row,Isn p x) (j:Nat):(vN (Zh6 p y row) j:F) = nm y * vN row j:=by
 by_cases h:j < row.length
 .unfold vN;rw [map_at h,hF.times hy (hr _ (Zap h))]
 .rw [Zi4 (by rw [Jab]; omega),Zi4 (Zhf h)]
  grind
theorem plus_fd {p:Int} {F:Type} [Lean.Grind.Field F] (hp:GroundP p) (hF:FdOk p F) {l:Nv} {row lead:List Nv} (hl:Isn p l) (he:row.length = lead.length) (hr:∀ x ∈ row,Isn p x) (hd:∀ x ∈ lead,Isn p x) (j:Nat):(vN (Zsx p l row lead) j:F) = vN row j + nm l * vN lead j:=by
 by_cases h:j < row.length
 .unfold vN;rw [Jac,Jad,Jav h];have h1:=hr _ (Zap (d:=(0,1)) h);have h2:=hd _ (Zap (d:=(0,1)) (show j < lead.length by exact Ze2 he h));show (nm (Zc5 p (row.getD j (0,1)) (Zba p l (lead.getD j (0,1)))):F) = _;rw [hF.plus h1 (Zbn hp.lo hl h2),hF.times hl h2]
 .rw [Zi4 (by rw [Jab,Jao]; exact Zhf h),Zi4 (Zhf h),Zi4 (Zs6 he h)]
  grind
theorem Zsp {p:Int} {b:Nat} (hp:GroundP p) (h7:7<=b) {y:Nv} {row:List Nv} (hy:Isn p y) (by':BtN b y) (hr:Zbc p b row):Zbc p (2 * b) (Zh6 p y row):=λx hx=>by
 obtain ⟨u,hu,rfl⟩:=Jap.mp hx;obtain ⟨i1,b1⟩:=hr u hu;have:=Zgs hp hy i1 by' b1 (by omega)
 rw [<- Nat.two_mul] at this;exact ⟨Zbn hp.lo hy i1,this⟩
theorem plus_gd {p:Int} {b:Nat} (hp:GroundP p) (h7:7<=b) {l:Nv} {row lead:List Nv} (hl:Isn p l) (bl:BtN (b + 1) l) (he:row.length = lead.length) (hr:Zbc p b row) (hd:Zbc p (2 * b) lead):Zbc p (4 * b + 2) (Zsx p l row lead):=λx hx=>by
 obtain ⟨j,hj,rfl⟩:=Jap.mp hx;have hj:=Ja4.mp hj;obtain ⟨i1,b1⟩:=hr _ (Zap (d:=(0,1)) hj);obtain ⟨i2,b2⟩:=hd _ (Zap (d:=(0,1)) (show j < lead.length by exact Ze2 he hj));have t1:=Zgs hp hl i2 bl b2 (by omega);have t2:=Zn9 hp i1 (Zbn hp.lo hl i2) b1 t1 h7;exact ⟨Zft hp.lo i1 (Zbn hp.lo hl i2),BtN.le t2 (by omega)⟩
theorem int_bt1 {p:Int} (hp:GroundP p):Bt 7 (Zgc p (-1)).1:=by
 unfold Zgc;split
 .exact Zaz (Jag _) (by decide)
 .have h1:=Jbr (-1) (show p ≠ 0 by assumption);have h2:=Jbg (-1) (show 0 < p by have:=hp.lo; omega);have h3:=hp.hi;exact Zaz (Jag _) (by show (-1 % p).natAbs < 128; omega)
theorem int_bt2 {p:Int} (hp:GroundP p):Bt 7 (Zgc p (-1)).2:=by
 unfold Zgc;split
 .exact Zaz (Jag _) (by decide)
 .exact Zaz (Jag _) (show (1:Int).natAbs < 128 by decide)
def LrInv (H:Hp) (p:Int) (t r1:Addr) (k n wd:Nat) (M:Mv) (c:Nat) (σ:L2.St) (H3:Hp):Prop:=∃ (v6 v7 v8 v9 v10:Option V) (rs2:List Addr) (M2:Mv) (pl:List Nat),σ = [some (.int p),some (.ref t),some (.int n),some (.int wd),some (.ref r1),some (.int (pl.length:Nat)),v6,v7,v8,v9,v10]/\Same H H3/\RowsV H3 p (lb p k c) n wd r1 rs2 M2/\(∀ a ∈ rs2,H a = none)/\∀ (F:Type) [Lean.Grind.Field F],FdOk p F->LrF F n c M M2 pl
def Zng:L2.Sp:=λvs H Q _=>∃ (p:Int) (t r:Addr) (rs:List Addr) (k n wd:Nat) (M:Mv),vs = [.int p,.ref t]/\GroundP p/\TabB H p k n wd t r rs M/\7<=k/\n<=24/\wd<=48/\(p = 0->(k + 1) * 4 ^ wd<=134000000) /\
 ∀ (t' tm r':Addr) (rs':List Addr) (M':Mv) (pl:List Nat) H',Same H H'->H' t' = some (.tup [.int (pl.length:Nat),.ref tm])->New H tm r' rs'->TabB H' p (lb p k wd) n wd tm r' rs' M'->(∀ (F:Type) [Lean.Grind.Field F],FdOk p F->LrF F n wd M M' pl)->Q (.ref t') H'
theorem lb_lim {p:Int} {k c wd:Nat} (h7:7<=k) (hc:c + 1<=wd) (kb:p = 0->(k + 1) * 4 ^ wd<=134000000):4 * lb p k c + 2<=134000000:=by
 have h1:=(Zgz (p:=p) (c:=c) h7).1;have h2:=lb_mono (p:=p) h7 hc;by_cases h0:p = 0
 .have h3:lb p k wd<=134000000:=by
   unfold lb;rw [if_pos h0];have:=kb h0;omega
  have:=h1 h0;omega
 .unfold lb;rw [if_neg h0];decide
theorem ok_lred {f:Addr} {fd:FuncData} (F:Fun K "_law_reduced" "_law_reduced" Zb7 f fd) (T:Txt K mg C) (C_law_copy:Cal P w K mg base "_law_copy" 1 Zja) (C_law_int:Cal P w K mg base "_law_int" 1 Zoi) (C_law_add:Cal P w K mg base "_law_add" 3 (Zkx Zc5)) (C_law_mul:Cal P w K mg base "_law_mul" 3 (Zkx Zba)) (C_law_back:Cal P w K mg base "_law_back" 4 Zmm):FnOk P w K mg base CX0 5 f fd ["_law_p","_law_table_here"] Zng:=by
 have nd:=Zf1.nd;refine F.ok Zf1 (λvs H Q E h=>?_) (λcdv A outer s H vs Q E hr h=>?_)
 .obtain ⟨p,t,r,rs,k,n,wd,M,rfl,_⟩:=h;rfl
 .obtain ⟨p,t,r,rs,k,n,wd,M,rfl,hp,tb,k7,n24,w24,kb,q⟩:=h;refine ⟨_,((Zbm (Za5 C_law_copy hr.m rfl ((pv 1)<&>Zaa)) (@Zcd _ _ _ _ _ 3 rfl (@Zag _ _ _ _ _ (@Zae _ _ 2 _ nd rfl (Or.inl rfl) (Or.inl rfl)) (@Zag _ _ _ _ _ (@Zae _ _ 3 _ nd rfl (Or.inl rfl) (Or.inl rfl)) (@Zag _ _ _ _ _ (@Zae _ _ 4 _ nd rfl (Or.inr rfl) (Or.inl rfl)) (@Za3 _) (by rfl)) (by rfl)) (by rfl)) (by rfl) (by rfl)))<*>((Zar (i:=5) nd rfl (Or.inl rfl) Zac)<*>((Zco Ja8 rfl (Zgb rfl T.n_range ((pv 3)<&>Zaa)) (@Zae _ _ 6 _ nd rfl (Or.inr rfl) (Or.inl rfl)) ((Zf9 (i:=7) (own:=["_law_k"]) (fr:=[("_law_rows_here",4),("_law_column",6),("_law_p",0)]) rfl (Zb0 (by kernel_rfl)) (pi_r2 rfl T.n_range ((pv 5)<&>((pv 2)<&>Zaa))) (λ_ _ _ _=>⟨(@Zae _ _ 0 _ (show (["_law_k","_law_rows_here","_law_column","_law_p"]:List Str).Nodup by decide +kernel) rfl (Or.inl rfl) (Or.inr rfl)),(Zmo (Zai (Zms K rfl (Zfa hr)) ((Zd5 K rfl)<|>((Zd5 K rfl)<|>(pv 1)<||>(pv 0))<||>(pv 2)) (Za5 C_law_int hr.m rfl ((pv 3)<&>(Zac<&>Zaa))) (Zan _))),(pv 0)⟩) nd rfl rfl rfl)<*>((@Za4 _ _ _ _ _ _ _ _ (Zai (Zuy (Zfa hr)) (pv 7) (@Zce _ _ _ _ Zaa) (Zan _)) (@Zas _ _ _ Zim) Zao)<*>((Zbm (@Za9 _ _ _ _ _ ((Zat<|>(pv 4)<||>(pv 5))<&>((Zat<|>(pv 4)<||>(Zat<|>(pv 7)<||>(Zi2 Zfz Zac)))<&>Zaa))) (@Zcd _ _ _ _ _ 2 rfl (@Zag _ _ _ _ _ (Zf4 (pv 4) (Zat<|>(pv 7)<||>(Zi2 Zfz Zac)) Zc6) (@Zag _ _ _ _ _ (Zf4 (pv 4) (pv 5) Zc6) (@Za3 _) (by rfl)) (by rfl)) (by rfl) (by rfl)))<*>((Zar (i:=8) nd rfl (Or.inr rfl) (Za5 C_law_back hr.m rfl ((pv 0)<&>((Zat<|>(Zat<|>(pv 4)<||>(pv 5))<||>(pv 6))<&>Zaa))))<*>((Zbm (Za6 (own:=["_law_number_here"]) (fr:=[("_law_p",0),("_law_back_here",8)]) rfl (Zb0 (by kernel_rfl)) (Zbd (Zat<|>(pv 4)<||>(pv 5))) (λ_ _ _ _=>⟨(@Zae _ _ 0 _ (show (["_law_number_here","_law_p","_law_back_here"]:List Str).Nodup by decide +kernel) rfl (Or.inl rfl) (Or.inr rfl)),Za1,(Za5 C_law_mul hr.m rfl ((pv 1)<&>((pv 2)<&>((pv 0)<&>Zaa))))⟩)) (Zf4 (pv 4) (pv 5) Zc6))<*>((Zco Ja8 rfl (Zgb rfl T.n_range ((pv 2)<&>Zaa)) (@Zae _ _ 9 _ nd rfl (Or.inl rfl) (Or.inl rfl)) (@Zas _ _ _ (@Za4 _ _ _ _ _ _ _ _ (PW.pt (Zk5 (Zai Zgn (pv 9) (pv 5) (Zan _)) (Zil (Zai (Zms K rfl (Zfa hr)) (Zat<|>(Zat<|>(pv 4)<||>(pv 9))<||>(pv 6)) (Za5 C_law_int hr.m rfl ((pv 0)<&>(Zac<&>Zaa))) (Zan _))))) ((Zar (i:=10) nd rfl (Or.inr rfl) (Za5 C_law_mul hr.m rfl ((pv 0)<&>((Za5 C_law_int hr.m rfl ((pv 0)<&>((Zi2 Zfz Zac)<&>Zaa)))<&>((Zat<|>(Zat<|>(pv 4)<||>(pv 9))<||>(pv 6))<&>Zaa)))))<*>(@Zas _ _ _ (Zbm (Za6 (own:=["_law_a","_law_b"]) (fr:=[("_law_p",0),("_law_less",10)]) rfl (Zb0 (by kernel_rfl)) (Zhe rfl T.n_zip ((Zat<|>(pv 4)<||>(pv 9))<&>((Zat<|>(pv 4)<||>(pv 5))<&>Zaa))) (λ_ _ _ _=>⟨(@Zfc _ K rfl _ _ _ _ 2 rfl (@Zag _ _ _ _ _ (@Zae _ _ 0 _ (show (["_law_a","_law_b","_law_p","_law_less"]:List Str).Nodup by decide +kernel) rfl (Or.inl rfl) (Or.inr rfl)) (@Zag _ _ _ _ _ (@Zae _ _ 1 _ (show (["_law_a","_law_b","_law_p","_law_less"]:List Str).Nodup by decide +kernel) rfl (Or.inl rfl) (Or.inr rfl)) (@Za3 _) (by rfl)) (by rfl)) (by rfl) (by rfl)),Za1,(Za5 C_law_add hr.m rfl ((pv 2)<&>((pv 0)<&>((Za5 C_law_mul hr.m rfl ((pv 2)<&>((pv 3)<&>((pv 1)<&>Zaa))))<&>Zaa))))⟩)) (Zf4 (pv 4) (pv 9) Zc6)))) Zao)))<*>(@Zas _ _ _ (Zar (i:=5) nd rfl (Or.inl rfl) (Zdf<|>(pv 5)<&&>Zac))))))))))<*>(~~~(@Za9 _ _ _ _ _ ((pv 5)<&>((@Za9 _ _ _ _ _ ((pv 2)<&>((pv 3)<&>((pv 4)<&>Zaa))))<&>Zaa))))))),?_⟩;walk_at "wp";refine ⟨p,n,wd,t,r,rs,M,rfl,tb.tv,by rw [tb.hl]; exact oz3 n24,λt1 r1 rs1 H1 s1 nw1 tb1=>?_⟩;refine ⟨t1,rfl,_,SqT.of tb1.tup,rfl,_,_,rfl,_,_,rfl,_,_,rfl,rfl,?_⟩;refine ⟨_,rfl,(wd:Int),rfl,lo62 _,hi62 (Jat w24 (by decide)),Zch (n:=wd) (λc σ H3=>LrInv H p t r1 k n wd M c σ H3)
   ⟨none,none,none,none,none,rs1,M,[],rfl,s1,⟨tb1.lst,tb1.row,tb1.nin,tb.hl,tb.hw,?_⟩,nw1.rs,λF _ hF=>LrF.start tb.hl⟩ ?_ ?_⟩
  .intro xs hx;by_cases h0:p = 0
   .have:lb p k 0 = k:=by unfold lb; rw [if_pos h0]; simp
    rw [this];exact tb.gd xs hx
   .exact Znx h0 hp.hi (Zgz k7).2.1 λx hxx=>(tb.gd xs hx x hxx).1
  .rintro c σ H3 hc ⟨v6,v7,v8,v9,v10,rs2,M2,pl,rfl,s3,R3,f3,lr⟩;refine Zt6 λD1 hD1=>?_;simp only [Zb4,Jbi,Jce];obtain ⟨F0,_,hF0⟩:=Zew hp;have dl:=(lr F0 hF0).dl;have m2:=R3.hl;have rl2:=R3.row.1;refine cut2 λX hX=>?_;walk_at "wp";have ec:(0:Int) + (c:Int) = (c:Int):=Int.zero_add _;rw [ec];have aft:∀ (Dn:Ends) (D:Addr) (s:Nat) (L:List Nat) (H4:Hp),(∀ σ H5,LrInv H p t r1 k n wd M (c + 1) σ H5->Dn.nx σ H5)->Same H3 H4->H4 D = some (.lst ((L ++ [s]).map λ(i:Nat)=>V.int i))->pl.length<=s->s < n->(M2.getD s []).getD c (0,1) ≠ (0,1)->
     X Dn [some (.int p),some (.ref t),some (.int n),some (.int wd),some (.ref r1),some (.int (pl.length:Nat)),some (.int c),some (.ref D),v8,v9,v10] H4:=by
    intro Dn D s L H4 hDn s4 e4 hs1 hs2 hs3;subst hX;refine Zfv λX2 hX2=>?_;have R4:=R3.same s4;have rl4:rs2.length = n:=R4.row.1.trans m2;have hpn:pl.length < n:=Jbo hs1 hs2;have hpM:pl.length < M2.length:=Zb2 hpn m2;have hsM:s < M2.length:=Zb2 hs2 m2;have es:rs2[s]? = some (rs2[s]'(Zb2 hs2 rl4)):=Jaa _;have ed:rs2[pl.length]? = some (rs2[pl.length]'(Zb2 hpn rl4)):=Jaa _;generalize hea:rs2[s]'(Zb2 hs2 rl4) = aS at es;generalize hed:rs2[pl.length]'(Zb2 hpn rl4) = aD at ed;have lastL:atI ((L ++ [s]).map λ(i:Nat)=>V.int i) (-1) = some (.int s):=by
     unfold atI;rw [Zhw (by simp)];simp
    have rvD:RowV H4 p aD (M2.getD pl.length []):=R4.row.2 pl.length _ _ ed (by rw [Za0 hpM]; exact Jaa _);have rvS:RowV H4 p aS (M2.getD s []):=R4.row.2 s _ _ es (by rw [Za0 hsM]; exact Jaa _);have nD:aD ≠ r1:=λz=>R4.nin (z ▸ Jae ed);have nS:aS ≠ r1:=λz=>R4.nin (z ▸ Jae es);have mD:M2.getD pl.length [] ∈ M2:=Zap hpM;have mS:M2.getD s [] ∈ M2:=Zap hsM;obtain ⟨lb1,lb7,lb2⟩:=Zgz (p:=p) (c:=c) k7;have sm4:=lb_lim k7 hc kb;have sm2:lb p k c + lb p k c<=134000000:=by omega
    have sm1:7 + lb p k c<=134000000:=by omega
    -- behind the swap
    have aft2:∀ (rs6:List Addr) (H6:Hp),Same H H6->RowsV H6 p (lb p k c) n wd r1 rs6 ((M2.set s (M2.getD pl.length [])).set pl.length (M2.getD s []))->(∀ a ∈ rs6,H a = none)->
      X2 Dn [some (.int p),some (.ref t),some (.int n),some (.int wd),some (.ref r1),some (.int (pl.length:Nat)),some (.int c),some (.ref D),v8,v9,v10] H6:=by
     intro rs6 H6 s06 R6 f6;subst hX2;refine cut2 λX3 hX3=>?_;have l0:(M2.set s (M2.getD pl.length [])).length = n:=by rw [Jay]; exact m2
     have eDrow:((M2.set s (M2.getD pl.length [])).set pl.length (M2.getD s [])).getD pl.length [] = M2.getD s []:=by rw [Zcw (Zb2 hpn l0),if_pos rfl]
     have eOther:∀ i,i ≠ pl.length->((M2.set s (M2.getD pl.length [])).set pl.length (M2.getD s [])).getD i [] = if i = s then M2.getD pl.length [] else M2.getD i []:=λi hi=>by rw [Zcw (Zb2 hpn l0),if_neg hi,Zcw hsM]
     generalize (M2.set s (M2.getD pl.length [])).set pl.length (M2.getD s []) = M6 at *;have hl6:=R6.hl;have rl6:rs6.length = n:=R6.row.1.trans hl6;obtain ⟨a6,vs6,v6',ea6,na6,hv6,vl6,al6,ev6,nv6,is6,bt6⟩:=R6.at (i:=pl.length) (c:=c) hpn hc;rw [eDrow] at al6 nv6 is6 bt6;have gS:=R3.gd _ mS;have wS:=R3.hw _ mS;have x1:=isn_ne is6 hs3;walk_at "wp";refine ⟨_,SqL.of R6.lst,.ref a6,Zkn ea6,_,rfl,_,SqL.of hv6,v6',Zr0 ev6,p,v6',_,rfl,hp,nv6,is6,x1,λbv y H7 s7 ny iB=>?_⟩;have R7:=R6.same s7;have hv7:=s7 _ _ hv6;have al7:All2 (NumV H7 p) vs6 (M2.getD s []):=al6.mono λ_ _ q=>q.same s7;have by':=iB.bt _ lb7 bt6
     refine ⟨_,rfl,_,rfl,r1,_,_,_,rfl,rfl,SqL.of R7.lst,Zkn ea6,a6,rfl,⟨_,SqL.of hv7⟩,λD2 hD2=>Zcc (λj Hc v=>NumV Hc p v (Zba p y ((M2.getD s []).getD j (0,1)))) (λq s=>q.same s) (λq hD=>q.put hD) hv7 hD2 (Zqx vl6 (Jat w24 (by decide))) (λj v Hc Qc hj sc _ qc=>?_) λws H8 s8 e8 wl hws=>?_⟩
     .obtain ⟨x,ex,nx⟩:=al7.at' hj;obtain ⟨ix,bx⟩:=gS x (Jae ex);refine ⟨_,rfl,_,rfl,_,rfl,p,bv,v,y,x,rfl,hp,⟨ny.same sc,nx.same sc,iB.is,ix,_,_,by'.1,by'.2,bx.1,bx.2,sm2⟩,λu Hd sd nu=>qc u Hd sd ?_⟩;rw [Zah ex]; exact nu
     have R8:=R7.same s8;have wsl:ws.length = (M2.getD s []).length:=(wl.trans vl6).trans wS.symm;have rv8:RowV H8 p D2 (Zh6 p y (M2.getD s [])):=⟨ws,e8,by rw [Jab]; exact wsl,λj v x e1 e2=>by
      have hj:j < (M2.getD s []).length:=wsl ▸ (Jah.mp e1).1;have h1:=hws j v e1;rw [Jad,Jaa hj] at e2;cases e2;rwa [Za0 hj] at h1⟩
     have nD2:D2 ≠ r1:=(Zaj R7.lst hD2).symm;refine ⟨_,R8.lst,pl.length,Zts hpn rl6,?_⟩;rw [Zfm];have sgd:=Zsp hp lb7 iB.is by' gS
     have two:2 * lb p k c<=lb p k (c + 1)\/p ≠ 0:=by
      by_cases h0:p = 0
      .have:=lb1 h0;exact .inl (oz103 this)
      .exact .inr h0
     have up:∀ {b:Nat} {xs:List Nv},(p = 0->b<=lb p k (c + 1))->Zbc p b xs->Zbc p (lb p k (c + 1)) xs:=λ{b xs} h g=>by
      by_cases h0:p = 0
      .exact λx hx=>⟨(g x hx).1,BtN.le (g x hx).2 (h h0)⟩
      .exact Znx h0 hp.hi (Zgz k7).2.1 λx hx=>(g x hx).1
     have R9:=R8.set (k:=pl.length) hpn rv8 nD2 (by rw [Jab]; exact wS) (b':=lb p k (c + 1)) λys hy=>by
      rcases Jar hy with h1 | h1
      .exact up (λ_=>lb2) (R8.gd ys h1)
      .rw [h1]; exact up (λh0=>by have:=lb1 h0; exact oz103 this) sgd
     have s09:Same H (upd H8 r1 (.lst ((rs6.set pl.length D2).map V.ref))):=((s06.trans s7).trans s8).upd nw1.r;have f9:∀ a ∈ rs6.set pl.length D2,H a = none:=λa ha=>by
      rcases Jar ha with h1 | h1
      .exact f6 a h1
      .rw [h1]; exact (s06.trans s7).free hD2
     have lg:∀ (F:Type) [Lean.Grind.Field F],FdOk p F->LrG F n c 0 M (M6.set pl.length (Zh6 p y (M2.getD s []))) pl:=λF _ hF=>by
      refine (lr F hF).lead hs1 hs2 (a:=nm y) ?_ (by rw [Jay]; exact hl6) (λj=>?_) (λi hi hne=>?_)
      .exact iB.fd F hF
      .rw [Zcw (Zb2 hpn hl6),if_pos rfl];exact Zsq hF iB.is (λx hx=>(gS x hx).1) j
      .rw [Zcw (Zb2 hpn hl6),if_neg hne,eOther i hne];split <;> rfl
     have gd9:Zbc p (2 * lb p k c) ((M6.set pl.length (Zh6 p y (M2.getD s []))).getD pl.length []):=by
      rw [Zcw (Zb2 hpn hl6),if_pos rfl];exact sgd
     have go9:∀ i,0<=i->i < n->i ≠ pl.length->Zbc p (lb p k c) ((M6.set pl.length (Zh6 p y (M2.getD s []))).getD i []):=λi _ hi hne=>by
      rw [Zcw (Zb2 hpn hl6),if_neg hne];exact R6.gd _ (Zap (Zb2 hi hl6))
     generalize M6.set pl.length (Zh6 p y (M2.getD s [])) = M9 at *;generalize upd H8 r1 (.lst ((rs6.set pl.length D2).map V.ref)) = H9 at *;generalize rs6.set pl.length D2 = rs9 at *;subst hX3;walk_at "wp";refine ⟨_,rfl,(n:Int),rfl,lo62 _,hi62 (Jat n24 (by decide)),Zch (n:=n) (λkk σ H3=>∃ (v9 v10:Option V) (rs2:List Addr) (M3:Mv),σ = [some (.int p),some (.ref t),some (.int n),some (.int wd),some (.ref r1),some (.int (pl.length:Nat)),some (.int c),some (.ref D),some bv,v9,v10]/\Same H H3/\RowsV H3 p (lb p k (c + 1)) n wd r1 rs2 M3/\(∀ a ∈ rs2,H a = none)/\(∀ (F:Type) [Lean.Grind.Field F],FdOk p F->LrG F n c kk M M3 pl)/\Zbc p (2 * lb p k c) (M3.getD pl.length [])/\∀ i,kk<=i->i < n->i ≠ pl.length->Zbc p (lb p k c) (M3.getD i []))
      ⟨v9,v10,rs9,M9,rfl,s09,R9,f9,lg,gd9,go9⟩ ?_ ?_⟩
     .rintro kk σ H10 hkk ⟨u9,u10,rs10,M10,rfl,s10,R10,f10,lg10,gd10,go10⟩;refine Zt6 λD2' hD2'=>?_;simp only [Zb4,Jbi,Jce];refine cutI λY hY=>?_;walk_at "wp";have ek:(0:Int) + (kk:Int) = (kk:Int):=Int.zero_add _;rw [ek];have hl10:=R10.hl;have rl10:rs10.length = n:=R10.row.1.trans hl10;refine Zdz (λhne=>?_) (λhne=>?_)
      .have hne:kk ≠ pl.length:=λz=>by rw [z] at hne; simp at hne
       obtain ⟨ak,vsk,vk,eak,nak,hvk,vlk,alk,evk,nvk,isk,btk0⟩:=R10.at (i:=kk) (c:=c) hkk hc;have rowk:Zbc p (lb p k c) (M10.getD kk []):=go10 kk (Jag _) hkk hne;have wk:(M10.getD kk []).length = wd:=R10.hw _ (Zap (Zb2 hkk hl10));have wdd:(M10.getD pl.length []).length = wd:=R10.hw _ (Zap (Zb2 hpn hl10));have btk:BtN (lb p k c) ((M10.getD kk []).getD c (0,1)):=(rowk _ (Zap (Zb2 hc wk))).2;refine ⟨_,SqL.of R10.lst,.ref ak,Zkn eak,_,rfl,_,SqL.of hvk,vk,Zr0 evk,p,0,rfl,hp,λu H11 s11 nu=>?_⟩;refine Zmv (nvk.same s11) nu isk (Zdd hp.lo) ⟨_,rfl,?_⟩;rw [Zen];refine Zdz (λhz=>?_) (λhz=>?_)
       .have hz:(M10.getD kk []).getD c (0,1) ≠ (0,1):=Ja7 hz;subst hY;refine Zfv λY hY=>?_;walk_at "wp";refine ⟨p,-1,rfl,hp,λmv H12 s12 nm1=>?_⟩;have s1112:=s11.trans s12;have R12:=R10.same s1112;refine ⟨_,SqL.of R12.lst,.ref ak,Zkn eak,_,rfl,_,SqL.of (s1112 _ _ hvk),vk,Zr0 evk,p,mv,vk,Zgc p (-1),(M10.getD kk []).getD c (0,1),rfl,hp,⟨nm1,nvk.same s1112,Zdd hp.lo,isk,7,lb p k c,int_bt1 hp,int_bt2 hp,btk.1,btk.2,sm1⟩,λlv H13 s13 nl=>?_⟩;have isl:=Zbn hp.lo (Zdd (k:=-1) hp.lo) isk;have btl:=Zuc hp isk btk lb7;have fdl:∀ (F:Type) [Lean.Grind.Field F],FdOk p F->(nm (Zba p (Zgc p (-1)) ((M10.getD kk []).getD c (0,1))):F) = -nm ((M10.getD kk []).getD c (0,1)):=λF _ hF=>by
         rw [hF.times (Zdd hp.lo) isk,hF.intF,Zrb,Zeo]
         grind
        generalize Zba p (Zgc p (-1)) ((M10.getD kk []).getD c (0,1)) = less at *;have s13':=s1112.trans s13;have R13:=R10.same s13';obtain ⟨ad,vsd,vd,ead,nad,hvd,vld,ald,evd,nvd,isd,btd⟩:=R13.at (i:=pl.length) (c:=c) hpn hc;have hvk13:=s13' _ _ hvk;have alk13:All2 (NumV H13 p) vsk (M10.getD kk []):=alk.mono λ_ _ q=>q.same s13';subst hY;walk_at "wp";refine ⟨_,rfl,_,rfl,r1,_,_,_,rfl,rfl,SqL.of R13.lst,Zkn eak,_,rfl,_,rfl,r1,_,_,_,rfl,rfl,SqL.of R13.lst,Zkn ead,ak,ad,rfl,⟨_,SqL.of hvk13⟩,⟨_,SqL.of hvd⟩,λD3 hD3=>Zfh (λj Hc v=>NumV Hc p v (Zc5 p ((M10.getD kk []).getD j (0,1)) (Zba p less ((M10.getD pl.length []).getD j (0,1))))) (λq s=>q.same s) (λq hD=>q.put hD) hvk13 hvd (vld.trans vlk.symm) hD3 (Zqx vlk (Jat w24 (by decide))) (λj va vb Hc Qc hva hvb sc _ qc=>?_) λws H14 s14 e14 wl hws=>?_⟩
        .obtain ⟨xa,exa,nxa⟩:=alk13.at' hva;obtain ⟨xb,exb,nxb⟩:=ald.at' hvb;obtain ⟨ia,ba⟩:=rowk xa (Jae exa);obtain ⟨ib,bb⟩:=gd10 xb (Jae exb);have tb1:=Zgs hp isl ib btl bb (by omega);refine ⟨_,rfl,_,rfl,_,rfl,_,rfl,_,rfl,p,lv,vb,less,xb,rfl,hp,⟨nl.same sc,nxb.same sc,isl,ib,_,_,btl.1,btl.2,bb.1,bb.2,by omega⟩,λm Hd sd hm=>?_⟩;refine ⟨p,va,m,xa,_,rfl,hp,⟨(nxa.same sc).same sd,hm,ia,Zbn hp.lo isl ib,_,_,ba.1,ba.2,tb1.1,tb1.2,by omega⟩,λv He se hv=>qc v He (sd.trans se) ?_⟩;rw [Zah exa,Zah exb];exact hv
        have R14:=R13.same s14;have wsk:ws.length = (M10.getD kk []).length:=(wl.trans vlk).trans wk.symm;have rv14:RowV H14 p D3 (Zsx p less (M10.getD kk []) (M10.getD pl.length [])):=⟨ws,e14,by rw [Jab,Jao]; exact wsk,λj v x e1 e2=>by
         have hj:j < (M10.getD kk []).length:=wsk ▸ (Jah.mp e1).1;have h1:=hws j v e1;rw [Jad,Jav hj] at e2;cases e2;exact h1⟩
        have nD3:D3 ≠ r1:=(Zaj R13.lst hD3).symm;refine ⟨_,R14.lst,kk,Zts hkk rl10,?_⟩;rw [Zfm];have pgd:=plus_gd hp lb7 isl btl (wk.trans wdd.symm) rowk gd10;have R15:=R14.set (k:=kk) hkk rv14 nD3 (by rw [Jab,Jao]; exact wk) (b':=lb p k (c + 1)) λys hy=>by
         rcases Jar hy with h1 | h1
         .exact R14.gd ys h1
         .rw [h1]; exact up lb1 pgd
        subst hD2';refine ⟨_,_,rs10.set kk D3,M10.set kk (Zsx p less (M10.getD kk []) (M10.getD pl.length [])),rfl,((s10.trans s13').trans s14).upd nw1.r,R15,λa ha=>?_,λF _ hF=>?_,?_,λi hi1 hi2 hi3=>?_⟩
        .rcases Jar ha with h1 | h1
         .exact f10 a h1
         .rw [h1]; exact (s10.trans s13').free hD3
        .refine (lg10 F hF).take hkk hne (by rw [Jay]; exact hl10) (λj=>?_) (λi hi hne'=>?_)
         .rw [Zcw (Zb2 hkk hl10),if_pos rfl,plus_fd hp hF isl (wk.trans wdd.symm) (λx hx=>(rowk x hx).1) (λx hx=>(gd10 x hx).1) j,fdl F hF];rfl
         .rw [Zcw (Zb2 hkk hl10),if_neg hne']
        .rw [Zcw (Zb2 hkk hl10),if_neg (Jcg hne)];exact gd10
        .rw [Zcw (Zb2 hkk hl10),if_neg (Jby hi1)];exact go10 i (Jcb hi1) hi2 hi3
       .have hz:(M10.getD kk []).getD c (0,1) = (0,1):=by
         apply Ja3;intro z;exact hz (Jbc z)
        subst hD2';refine ⟨_,_,rs10,M10,rfl,s10.trans s11,R10.same s11,f10,λF _ hF=>(lg10 F hF).skip λ_ _=>?_,gd10,λi hi1 hi2 hi3=>go10 i (Jcb hi1) hi2 hi3⟩;unfold vN;rw [hz];exact Zfe
      .have hne:kk = pl.length:=by
        have:(kk:Int) = (pl.length:Int):=by simpa using hne
        omega
       subst hD2';exact ⟨_,_,rs10,M10,rfl,s10,R10,f10,λF _ hF=>(lg10 F hF).skip λh=>absurd hne h,gd10,λi hi1 hi2 hi3=>go10 i (Jcb hi1) hi2 hi3⟩
     .rintro σ H10 ⟨u9,u10,rs10,M10,rfl,s10,R10,f10,lg10,gd10,go10⟩;walk_at "wp";exact hDn _ _ ⟨some (.int c),some (.ref D),some bv,u9,u10,rs10,M10,pl ++ [c],by simp,s10,R10,f10,λF _ hF=>(lg10 F hF).next⟩
    walk_at "wp";refine ⟨_,SqL.of R4.lst,.ref aD,Zkn ed,_,SqL.of e4,_,lastL,_,_,rfl,SqL.of R4.lst,.ref aS,Zkn es,by decide,λtp htp=>?_⟩;have s5:=Same.new (o:=.tup [V.ref aD,V.ref aS]) htp;have R5:=R4.same s5;refine ⟨_,SqT.of Zab,rfl,_,_,rfl,_,SqL.of (s5 _ _ e4),_,lastL,_,_,rfl,R5.lst,s,Zts hs2 rl4,?_⟩;have R6:=R5.set (k:=s) hs2 (rvD.same s5) nD (R5.hw _ mD) (b':=lb p k c) λys hy=>by
     rcases Jar hy with h1 | h1
     .exact R5.gd ys h1
     .rw [h1]; exact R5.gd _ mD
    rw [Zfm];have e6:upd (upd H4 tp (.tup [V.ref aD,V.ref aS])) r1 (.lst ((rs2.set s aD).map V.ref)) r1 = some (.lst ((rs2.set s aD).map V.ref)):=Zab;refine ⟨_,_,rfl,_,e6,pl.length,Zts hpn ((Jay ..).trans rl4),rfl,?_⟩;rw [Zfm];have rvS6:RowV (upd (upd H4 tp (.tup [V.ref aD,V.ref aS])) r1 (.lst ((rs2.set s aD).map V.ref))) p aS (M2.getD s []):=(rvS.same s5).put R5.lst nS;have R7:=R6.set (k:=pl.length) hpn rvS6 nS (R5.hw _ mS) (b':=lb p k c) λys hy=>by
     rcases Jar hy with h1 | h1
     .exact R6.gd ys h1
     .rw [h1]; exact R5.gd _ mS
    refine aft2 _ _ ((((s3.trans s4).trans s5).upd nw1.r).upd nw1.r) R7 λa ha=>?_;rcases Jar ha with h1 | h1
    .rcases Jar h1 with h2 | h2
     .exact f3 a h2
     .rw [h2]; exact f3 aD (Jae ed)
    .rw [h1]; exact f3 aS (Jae es)
   refine ⟨_,rfl,_,rfl,_,_,rfl,⟨lo62 _,hi62 (Jat dl (Jat n24 (by decide))),lo62 _,hi62 (Jat n24 (by decide))⟩,λD hD=>Zn3 (λi=>decide ((M2.getD (pl.length + i) []).getD c (0,1) ≠ (0,1))) hD (by omega) (λi H4 Q4 hi s4 q4=>?_) λH4 s4 e4=>?_⟩
   .have hin:pl.length + i < n:=lt_sub (Zpb ▸ hi);obtain ⟨a,vs,v,ea,nar,hv,vl,al,ev,nv,is,bt⟩:=(R3.same s4).at hin hc;have R4:=R3.same s4;simp only [Zbp];walk_at "wp";refine ⟨_,rfl,r1,rfl,_,SqL.of R4.lst,.ref a,Zcx (by omega) (by rw [show ((pl.length:Int) + (i:Int)).toNat = pl.length + i by exact oz102,Jad,ea]; rfl),_,rfl,a,rfl,_,_,rfl,SqL.of hv,v,Zcx Ze3 (by rw [Jau]; exact ev),_,rfl,p,0,rfl,hp,λu H5 s5 nu=>?_⟩;refine Zmv (nv.same s5) nu is (Zdd hp.lo) ⟨_,rfl,?_⟩;rw [Zen];exact q4 H5 s5
   .generalize hL:(List.range ((n:Int) - (pl.length:Int)).toNat).filter (λi=>decide ((M2.getD (pl.length + i) []).getD c (0,1) ≠ (0,1))) = L at e4;have memL:∀ i,i ∈ L ↔ i < n - pl.length/\(M2.getD (pl.length + i) []).getD c (0,1) ≠ (0,1):=λi=>by
     rw [<- hL,Jdb,Ja4,Jcx,Zpb]
    refine ⟨by decide,λE0' hE0=>?_⟩;have s5:=Same.new (o:=.lst []) hE0;refine ⟨D,rfl,_,SqL.of (s5 _ _ e4),_,SqL.of Zab,?_⟩;rcases List.eq_nil_or_concat L with e | ⟨L0,i,e⟩
    .subst e;refine .inr ⟨[],⟨rfl,rfl,λj x y b e1=>by simp at e1⟩,?_⟩;rw [if_pos (by rfl)];subst hD1;refine ⟨_,_,_,_,_,rs2,M2,pl,rfl,(s3.trans s4).trans s5,?_,f3,λF _ hF=>(lr F hF).skip λi h1 h2=>?_⟩
     .have R5:=(R3.same s4).same s5;exact ⟨R5.lst,R5.row,R5.nin,R5.hl,R5.hw,λxs hx x hxx=>⟨(R5.gd xs hx x hxx).1,BtN.le (R5.gd xs hx x hxx).2 (Zgz k7).2.2⟩⟩
     .have:(M2.getD i []).getD c (0,1) = (0,1):=by
       apply Ja3;intro z;have:=(memL (i - pl.length)).mpr ⟨oz63 h1 h2,by rw [show pl.length + (i - pl.length) = i by exact oz40 h1]; exact z⟩;simp at this
      unfold vN;rw [this];exact Zfe
    .rw [List.concat_eq_append] at e;subst e;refine .inl ⟨by simp,?_⟩;obtain ⟨h1,h2⟩:=(memL i).mp (by simp);refine aft _ D (pl.length + i) (L0.map λj=>pl.length + j) _ (λσ H5 h=>by rw [hD1]; exact h) (s4.trans s5) ?_ Zs5 (oz54 h1) h2;rw [s5 _ _ e4];simp
  .rintro σ H3 ⟨v6,v7,v8,v9,v10,rs2,M2,pl,rfl,s3,R3,f3,lr⟩;walk_at "wp";refine ⟨by decide,λtm htm=>⟨by decide,λt' ht'=>?_⟩⟩;have s4:=Same.new (o:=.tup [V.int n,V.int wd,V.ref r1]) htm;have s5:=Same.new (o:=.tup [V.int (pl.length:Nat),V.ref tm]) ht';have s45:=s4.trans s5;exact q t' tm r1 rs2 M2 pl _ (s3.trans s45) Zab ⟨s3.free htm,nw1.r,f3⟩ ⟨⟨s5 _ _ Zab,s45 _ _ R3.lst,R3.row.mono λ_ _ k=>k.same s45,R3.nin⟩,R3.hl,R3.hw,R3.gd⟩ lr
end
end Pf
namespace Pf
open PySem L2 L3 PyProof.Rows
structure Mat (p:Int) (n wd:Nat) (M:Mv):Prop where
 hl:M.length = n
 hw:∀ xs ∈ M,xs.length = wd
 is:∀ xs ∈ M,∀ x ∈ xs,Isn p x
theorem Zlk {p:Int} {F:Type} [Lean.Grind.Field F] (hF:FdOk p F) {n wd:Nat} {A B:Mv} (hA:Mat p n wd A) (hB:Mat p n wd B) (h:∀ i j,i < n->j < wd->(vN (A.getD i []) j:F) = vN (B.getD i []) j):A = B:=by
 have la:=hA.hl;have lb:=hB.hl;refine List.ext_getElem (Zs8 la lb) λi h1 h2=>?_;have wa:=hA.hw _ (Jaw h1);have wb:=hB.hw _ (Jaw h2);refine List.ext_getElem (Zs8 wa wb) λj h3 h4=>?_;have:=h i j (Ze2 lb h2) (Ze2 wa h3);rw [Za0 h1,Za0 h2,vN_in (Jaa h3),vN_in (Jaa h4)] at this;exact hF.inj (hA.is _ (Jaw h1) _ (Jaw h3)) (hB.is _ (Jaw h2) _ (Jaw h4)) this
theorem Zj5 {p:Int} (hp:GroundP p) {n m wd:Nat} {A B:Mv} (hA:Mat p n m A) (hB:Mat p m wd B):Mat p n wd (Zdc p A B wd):=by
 obtain ⟨F,_,hF⟩:=Zew hp;refine ⟨by unfold Zdc; rw [Jab]; exact hA.hl,λxs hx=>?_,λxs hx x hxx=>?_⟩
 .obtain ⟨row,_,rfl⟩:=Jap.mp hx;rw [Jab,Jao]
 .obtain ⟨row,hr,rfl⟩:=Jap.mp hx;obtain ⟨j,hj,rfl⟩:=Jap.mp hxx;have hj:=Ja4.mp hj;have wr:=hA.hw row hr;have lB:=hB.hl;exact (Zn0 hp hF (λi hi=>hA.is row hr _ (Zap hi)) (λi hi=>by
   have hi':i < B.length:=by omega
   rw [Jac,Jad,Jaa hi'];exact hB.is _ (Jaw hi') _ (Zap (by rw [hB.hw _ (Jaw hi')]; exact hj)))).1
theorem Zgx {p:Int} {F:Type} [Lean.Grind.Field F] (hp:GroundP p) (hF:FdOk p F) {n m wd:Nat} {A B:Mv} (hA:Mat p n m A) (hB:Mat p m wd B) {i j:Nat} (hi:i < n) (hj:j < wd):(vN ((Zdc p A B wd).getD i []) j:F) = sm m λl=>vN (A.getD i []) l * vN (B.getD l []) j:=by
 have lA:=hA.hl;have lB:=hB.hl;have hm:A.getD i [] ∈ A:=Zap (Zhu hi lA);have e:(Zdc p A B wd).getD i [] = (List.range wd).map λj=>Zt3 p (A.getD i []) (Zhn B j):=by
  unfold Zdc;rw [Jac,Jad,Jaa (show i < A.length by exact Zhu hi lA),Za0 (show i < A.length by exact Zhu hi lA)];rfl
 have wr:=hA.hw _ hm;have col:∀ l,l < m->(Zhn B j).getD l (0,1) = (B.getD l []).getD j (0,1):=λl hl=>by
  rw [Jac,Jad,Jaa (show l < B.length by exact Zck lB hl),Za0 (show l < B.length by exact Zck lB hl)];rfl
 rw [e];unfold vN;rw [Jac,Jad,Jav hj];have:=(Zn0 hp hF (n:=(A.getD i []).length) (f:=λk=>(A.getD i []).getD k (0,1)) (g:=λk=>(Zhn B j).getD k (0,1)) (λl hl=>hA.is _ hm _ (Zap hl)) (λl hl=>by
  rw [col l (Ze2 wr hl)];exact hB.is _ (Zap (oz82 lB wr hl)) _ (Zap (by rw [hB.hw _ (Zap (oz82 lB wr hl))]; exact hj)))).2
 show (nm (Zt3 p (A.getD i []) (Zhn B j)):F) = _;rw [this,wr];exact Zaf λl hl=>by rw [col l hl]
section
variable {P:Program} {w:World} {K:PySem.W.Frag} {mg:Str->Option Value} {base:Heap} {C PL cL:Addr}
theorem TabV.items {H:Hp} {p hh wd:Int} {t r t' r':Addr} {rs rs':List Addr} {M:Mv} (h:TabV H p hh wd t r rs M) (h':TabV H p hh wd t' r' rs' M):Zfj K H 6 [.int hh,.int wd,.ref r] [.int hh,.int wd,.ref r'] (List.replicate 3 true):=Zhx rfl λj x y e1 e2=>by
 match j,e1,e2 with
 | 0,e1,e2=>cases e1; cases e2; exact Zcb
 | 1,e1,e2=>cases e1; cases e2; exact Zcb
 | 2,e1,e2=>
  cases e1; cases e2;obtain ⟨f1,f2⟩:=Zko (K:=K) (H:=H) (n:=5) (Zay h.row) (Zay h'.row) λv u x ⟨a,ea,ha⟩ ⟨b,eb,hb⟩=>by subst ea; subst eb; exact ha.eq hb
  exact Zj9 h.lst h'.lst f1 f2
 | j + 3,e1,e2=>cases e1
theorem Same.thru {l:Addr} {H H1 H2:Hp} (s:Same H H1) (h:H l = none) (e:Ext l H1 H2):Same H H2:=λb o eb=>e b o (Zaj eb h) (s b o eb)
theorem Zt5 (ns:List Int) (lo hi:Option Int):∃ ms:List Int,Zlz (ns.map V.int) lo hi = ms.map V.int/\ms.length<=ns.length:=by
 refine ⟨(ns.drop (HT.sIx (ns.map V.int).length 0 lo)).take (HT.sIx (ns.map V.int).length (ns.map V.int).length hi - HT.sIx (ns.map V.int).length 0 lo),?_,?_⟩
 .unfold Zlz;rw [List.map_take,Jfl]
 .rw [Jbf,Jbm];exact oz65
theorem bd55 {x:Nv} (h:Bd BB x):BtN 55 x:=⟨Jbo h.1 (by decide),Jbo h.2 (by decide)⟩
theorem Zj0 {H:Hp} {p hh wd:Int} {t r:Addr} {rs:List Addr} (h0:0<=hh) (w0:0<=wd) (tb:Tab H p hh wd t r rs):∃ M,TabB H p 55 hh.toNat wd.toNat t r rs M:=by
 obtain ⟨M,tv,sh,g⟩:=tb.byV;refine ⟨M,⟨?_,?_,λxs hx=>?_,λxs hx x hxx=>⟨(g xs hx x hxx).1,bd55 (g xs hx x hxx).2⟩⟩⟩
 .rw [Jcr h0,Jcr w0];exact tv
 .have:=sh.1;exact oz85 this
 .have:=sh.2 xs hx;exact oz85 this
end
end Pf
namespace Pf
open PySem L2 L3 PyProof.Rows
def IsRk (p:Int) (n wd:Nat) (M:Mv) (r:Nat):Prop:=∀ (F:Type) [Lean.Grind.Field F],FdOk p F->Rk (λi j=>(vN (M.getD i []) j:F)) n wd r
theorem Zpa {p:Int} {Z:List (List Int)} {k n:Nat} {done left:List (List Int)} {pl:List Nat} (hp:0<=p) (p97:p<=97) (h7:7<=n) (hZ:∀ row ∈ Z,SmallR n row) (h:Sw p Z k done left pl):pl.length + left.length = Z.length/\(∀ row ∈ left,SmallR ((n + 1) * 2 ^ pl.length - 1) row)/\∀ row ∈ done,SmallR ((n + 1) * 2 ^ (Z.length - 1) - 1) row:=by
 have up:∀ a b,a<=b->(n + 1) * 2 ^ a - 1<=(n + 1) * 2 ^ b - 1:=λa b hab=>by
  have:(n + 1) * 2 ^ a<=(n + 1) * 2 ^ b:=Jaz (Jag _) (Jbh (by decide) hab);omega
 induction h with
 | start=>exact ⟨by simp,by simpa using hZ,λrow h=>by simp at h⟩
 | skip h hz ih=>exact ih
 | @take k done left pl i lead h hi hk ih=>
  obtain ⟨i1,i2,i3⟩:=ih;have hil:i < left.length:=(Jah.mp hi).1;have sl:=i2 lead (Jae hi);have h7':7<=(n + 1) * 2 ^ pl.length - 1:=by
   have:(n + 1) * 1<=(n + 1) * 2 ^ pl.length:=Jaz (Jag _) (Jbj _);exact oz66 h7 this
  have e:(n + 1) * 2 ^ (pl.length + 1) - 1 = 2 * ((n + 1) * 2 ^ pl.length - 1) + 1:=by
   rw [Jd9,<- Jdm];exact oz84 h7'
  refine ⟨by rw [Jam,Jab,List.length_eraseIdx_of_lt hil]; show pl.length + 1 + _ = _; exact oz135 i1 hil,λrow hr=>?_,λrow hr=>?_⟩
  .obtain ⟨row',hr',rfl⟩:=Jap.mp hr;rw [Jam];show SmallR ((n + 1) * 2 ^ (pl.length + 1) - 1) _;rw [e];exact Zf8 hp p97 h7' (i2 _ (Jb1 hr')) sl
  .rcases Jal.mp hr with hr | hr
   .exact i3 row hr
   .rw [Ja1.mp hr];exact sl.le (up _ _ (by omega))
theorem sw_few {p:Int} {k W wide n:Nat} {M:Mv} (hp:GroundP p) (h7:7<=k) (hl:M.length = n) (wd:∀ xs ∈ M,xs.length = W) (hb:p = 0->((W + 1) * k + 1) * 2 ^ (n - 1)<=HB):Zgd p k wide M:=by
 intro Z IR j done left pl hj sw row hr;have p0:=hp.lo;have p97:=hp.hi;by_cases h0:p = 0
 .have hb:=hb h0;have n7:7<=(W + 1) * k:=by rw [Jb6]; exact oz94 h7
  have zl:Z.length = M.length:=IR.1;obtain ⟨a,b,c⟩:=Zpa p0 p97 n7 (Zcu hp h7 IR wd) sw;rcases Jal.mp hr with h | h
  .exact (c row h).le (by rw [zl,hl]; exact oz122 hb)
  .have h1:0 < left.length:=List.length_pos_of_mem h;refine (b row h).le ?_;have:((W + 1) * k + 1) * 2 ^ pl.length<=((W + 1) * k + 1) * 2 ^ (n - 1):=Jaz (Jag _) (Jbh (by decide) (oz35 hl zl a h1));omega
 .exact (Zfl h0 p97 ((sw.inv p0 (Zbo p0 IR wd)).rw row hr)).le (by decide)
section
variable {P:Program} {w:World} {K:PySem.W.Frag} {mg:Str->Option Value} {base:Heap} {C PL cL:Addr}
structure WRh (H:Hp) (p:Int) (t l:Addr) (xs:List Nv) (kb:Nat):Prop where
 ex:∃ (ts:List Int) (b:Int),H t = some (.tup [.ref l,.int b])/\RowZ H l ts/\WRz p xs ts b/\SmallR kb ts/\Bt kb b
theorem WRh.same {H H':Hp} {p:Int} {t l:Addr} {xs:List Nv} {kb:Nat} (h:WRh H p t l xs kb) (s:Same H H'):WRh H' p t l xs kb:=let ⟨ts,b,h1,h2,h3⟩:=h.ex; ⟨ts,b,s _ _ h1,s _ _ h2,h3⟩
theorem WRh.put {H:Hp} {D:Addr} {l':List V} {o:HO} {p:Int} {t l:Addr} {xs:List Nv} {kb:Nat} (h:WRh H p t l xs kb) (hD:H D = some (.lst l')) (n:l ≠ D):WRh (upd H D o) p t l xs kb:=let ⟨ts,b,h1,h2,h3⟩:=h.ex; ⟨ts,b,by rw [Zal (Zqm h1 hD (by intro z; cases z))]; exact h1,h2.put n,h3⟩
theorem Zhc {f g:Nat->Int}:∀ {n:Nat},(∀ i,i < n->f i = g i)->preSum f n = preSum g n
 | 0,_=>rfl
 | n + 1,h=>by
  show preSum f n + f n = preSum g n + g n;rw [Zhc (n:=n) λi hi=>h i (Zfw hi),h n (by omega)]
theorem Zod (g:Nat->Int) (N:Nat):preSum (λi=>((List.range N).map g).getD i 0) N = preSum g N:=Zhc λi hi=>by
 rw [Jac,Jad,Jav hi];rfl
theorem Zk7 {f:Nat->Int} {B:Nat}:∀ {n:Nat},(∀ i,i < n->(f i).natAbs<=B)->(preSum f n).natAbs<=n * B
 | 0,_=>by show (0:Int).natAbs<=_; simp
 | n + 1,h=>by
  have a:=Zk7 (f:=f) (B:=B) (n:=n) λi hi=>h i (Zfw hi);have b:=h n (by omega);show (preSum f n + f n).natAbs<=(n + 1) * B;rw [Jb6,Nat.one_mul];exact oz48 a b
theorem Zk8 {F:Type} [Lean.Grind.Field F] (f:Nat->Int):∀ n:Nat,(ic (preSum f n):F) = sm n λi=>ic (f i)
 | 0=>Zev
 | n + 1=>by
  show (ic (preSum f n + f n):F) = sm n (λi=>ic (f i)) + ic (f n);rw [Znw,Zk8 f n]
theorem Zpw {f:Nat->Int} {k n:Nat} (hn:n<=24) (h:∀ i,i < n->Bt k (f i)):Bt (k + 5) (preSum f n):=by
 have h1:=Zk7 (f:=f) (B:=2 ^ k) (n:=n) λi hi=>Jcd (h i hi);have h2:n * 2 ^ k<=24 * 2 ^ k:=Nat.mul_le_mul_right _ hn;have h3:2 ^ (k + 5) = 32 * 2 ^ k:=by rw [Jfj]; omega
 have h4:=Jbj k;show (preSum f n).natAbs < 2 ^ (k + 5);omega
theorem dot_isQ {p:Int} {xs ys:List Nv} {ts us:List Int} {b c:Int} {x:Nv} (hp:GroundP p) (hl:ys.length = xs.length) (hx:∀ x ∈ xs,Isn p x) (hy:∀ y ∈ ys,Isn p y) (w1:WRz p xs ts b) (w2:WRz p ys us c) (iq:IsQ p (preSum (λi=>ts.getD i 0 * us.getD i 0) xs.length) (b * c) x):x = Zt3 p xs ys:=by
 obtain ⟨F,_,hF⟩:=Zew hp;obtain ⟨i1,e1⟩:=Zn0 hp hF (n:=xs.length) (f:=λk=>xs.getD k (0,1)) (g:=λk=>ys.getD k (0,1)) (λi hi=>hx _ (Zap hi)) (λi hi=>hy _ (Zap (Zck hl hi)));refine hF.inj iq.is i1 ?_;rw [iq.fd F hF,e1,Zk8,Zcf];have b0:=wr_b hF w1;have c0:=wr_b hF w2;rw [Zaf (g:=λi=>(ic b * ic c) * (nm (xs.getD i (0,1)) * nm (ys.getD i (0,1)))) λi hi=>by
  rw [Zcf];have a1:=wr_eq hF w1 hx i;have a2:=wr_eq hF w2 hy i;unfold vz vN at a1 a2;rw [a1,a2]
  grind]
 rw [Zde];generalize (sm xs.length λi=>(nm (xs.getD i (0,1)):F) * nm (ys.getD i (0,1))) = z;have bc:(ic b * ic c:F) ≠ 0:=by
  intro z
  grind
 grind
theorem bot_ne {p b:Int} {F:Type} [Lean.Grind.Field F] (hp:GroundP p) (hF:FdOk p F) (h:(ic b:F) ≠ 0):p ≠ 0->b % p ≠ 0:=λh0 z=>by
 apply h;rw [<- hF.modF h0,z,Zev]
def spRt (C:Addr):L2.Sp:=λvs H Q _=>∃ (g t l u m:Addr) (p:Int) (xs ys:List Nv) (k1 k2:Nat),vs = [.ref g,.ref t,.ref u]/\GAt C H g p/\GroundP p/\WRh H p t l xs k1/\WRh H p u m ys k2/\xs.length<=24/\ys.length = xs.length/\(∀ x ∈ xs,Isn p x)/\(∀ y ∈ ys,Isn p y)/\k1 + k2 + 5<=NB /\
 ∀ v H',Same H H'->NumV H' p v (Zt3 p xs ys)->Q v H'
theorem ok_rt {f:Addr} {fd:FuncData} (F:Fun K "row_times" "row_times" Zc0 f fd) (T:Txt K mg C) (C_Ground_number_F:CalD P w K mg base C "number" 6 (Zg2 C) []):FnOk P w K mg base CX0 7 f fd ["ground","row","column"] (spRt C):=by
 have nd:=Zg6.nd;refine F.ok Zg6 (λvs H Q E h=>?_) (λcdv A outer s H vs Q E hr h=>?_)
 .obtain ⟨g,t,l,u,m,p,xs,ys,k1,k2,rfl,_⟩:=h;rfl
 .obtain ⟨g,t,l,u,m,p,xs,ys,k1,k2,rfl,hg,hp,⟨ts,b,ht,hl,w1,b1,bb1⟩,⟨us,c,hu,hm,w2,b2,bb2⟩,xl,yl,gx,gy,kb,q⟩:=h;refine ⟨_,((Zbm (pv 1) (@Zcd _ _ _ _ _ 2 rfl (@Zag _ _ _ _ _ (@Zae _ _ 3 _ nd rfl (Or.inl rfl) (Or.inl rfl)) (@Zag _ _ _ _ _ (@Zae _ _ 4 _ nd rfl (Or.inl rfl) (Or.inl rfl)) (@Za3 _) (by rfl)) (by rfl)) (by rfl) (by rfl)))<*>((Zbm (pv 2) (@Zcd _ _ _ _ _ 2 rfl (@Zag _ _ _ _ _ (@Zae _ _ 5 _ nd rfl (Or.inl rfl) (Or.inl rfl)) (@Zag _ _ _ _ _ (@Zae _ _ 6 _ nd rfl (Or.inl rfl) (Or.inl rfl)) (@Za3 _) (by rfl)) (by rfl)) (by rfl) (by rfl)))<*>(~~~(Zio T.cl_Ground C_Ground_number_F hr.m (pv 0) ((Zcj (Zn7 rfl) rfl T.n_sum boot_sum ((Za6 (own:=["a","b"]) (fr:=[]) rfl (Zb0 (by kernel_rfl)) (Zhe rfl T.n_zip ((pv 3)<&>((pv 5)<&>Zaa))) (λ_ _ _ _=>⟨(@Zfc _ K rfl _ _ _ _ 2 rfl (@Zag _ _ _ _ _ (@Zae _ _ 0 _ (show (["a","b"]:List Str).Nodup by decide +kernel) rfl (Or.inl rfl) (Or.inr rfl)) (@Zag _ _ _ _ _ (@Zae _ _ 1 _ (show (["a","b"]:List Str).Nodup by decide +kernel) rfl (Or.inl rfl) (Or.inr rfl)) (@Za3 _) (by rfl)) (by rfl)) (by rfl) (by rfl)),Za1,(Zbb<|>(pv 0)<&&>(pv 1))⟩))<&>Zaa))<&>((Zbb<|>(pv 4)<&&>(pv 6))<&>Zaa)))))),?_⟩;walk_at "wp";obtain ⟨dx,hg0⟩:=hg;have tl:=w1.len;have ul:=w2.len;refine ⟨_,SqT.of ht,rfl,_,_,rfl,_,_,rfl,rfl,_,SqT.of hu,rfl,_,_,rfl,_,_,rfl,rfl,dx,_,hg0,Zc8 p,?_⟩;have bt1:∀ i,Bt k1 (ts.getD i 0):=λi=>b1.at i;have bt2:∀ i,Bt k2 (us.getD i 0):=λi=>b2.at i;refine ⟨_,rfl,_,rfl,l,m,rfl,⟨_,SqL.of hl⟩,⟨_,SqL.of hm⟩,λD hD=>Zfh (λi _ y=>y = .int (ts.getD i 0 * us.getD i 0)) (λr _=>r) (λr _=>r) hl hm (by rw [Jab,Jab]; omega) hD (by rw [Jab]; exact oz145 xl tl) (λi x y H' Q' hx hy s' _ q'=>?_) (λzs H1 s1 e1 zl hz=>?_)⟩
  .obtain ⟨a,e,rfl⟩:=Zet hx;obtain ⟨c',e',rfl⟩:=Zet hy;have h1:=bt1 i;have h2:=bt2 i;rw [Zah e] at h1;rw [Zah e'] at h2;exact ⟨_,rfl,_,rfl,_,_,rfl,rfl,h1.ok h2 (Jat (show k1 + k2<=NB by omega) (by decide)),q' _ H' (Same.refl _) (by rw [Zah e,Zah e'])⟩
  .rw [Jab,tl] at zl;rw [Zm4 zl hz] at e1;refine ⟨D,rfl,_,SqL.of e1,b,rfl,c,rfl,bb1.ok bb2 (Jat (show k1 + k2<=NB by omega) (by decide)),?_⟩;rw [Jab,Jao,Zod];obtain ⟨F',_,hF⟩:=Zew hp;have bc:(ic (b * c):F') ≠ 0:=by
    have:=wr_b hF w1;have:=wr_b hF w2;rw [Zcf];intro z
    grind
   refine ⟨g,p,_,_,rfl,⟨dx,s1 _ _ hg0⟩,hp,(Zpw xl λi _=>(bt1 i).mul (bt2 i)).le (by omega),(bb1.mul bb2).le (by omega),λ_=>?_,bot_ne hp hF bc,λv x H2 s2 nv iq=>?_⟩
   .have:=Jc2 w1.pos w2.pos;omega
   .rw [dot_isQ hp yl gx gy w1 w2 iq] at nv;exact q v H2 (s1.trans s2) nv
abbrev colM (M:Mv) (wd:Nat):Mv:=(List.range wd).map λj=>Zhn M j
theorem col_len {M:Mv} {n wd:Nat} (hl:M.length = n):∀ xs ∈ colM M wd,xs.length = n:=λxs hx=>by
 obtain ⟨j,_,rfl⟩:=Jap.mp hx;rw [Jab,hl]
theorem Zrs {p:Int} {M:Mv} {k wd:Nat} (hw:∀ xs ∈ M,xs.length = wd) (g:∀ xs ∈ M,Zbc p k xs):∀ xs ∈ colM M wd,Zbc p k xs:=λxs hx=>by
 obtain ⟨j,hj,rfl⟩:=Jap.mp hx;exact Zl2 hw g (Ja4.mp hj)
def spTa:L2.Sp:=λvs H Q _=>∃ (p:Int) (k n wd:Nat) (t r:Addr) (rs:List Addr) (M:Mv),vs = [.ref t]/\TabB H p k n wd t r rs M/\n<=200/\wd<=200/\∀ (t' r':Addr) (rs':List Addr) H',Same H H'->New H t' r' rs'->TabB H' p k wd n t' r' rs' (colM M wd)->Q (.ref t') H'
theorem ok_ta {f:Addr} {fd:FuncData} (F:Fun K "turned_about" "turned_about" Zbv f fd) (T:Txt K mg C):FnOk P w K mg base CX0 1 f fd ["table"] spTa:=by
 have nd:=Ze6.nd;refine F.ok Ze6 (λvs H Q E h=>?_) (λcdv A outer s H vs Q E hr h=>?_)
 .obtain ⟨p,k,n,wd,t,r,rs,M,rfl,_⟩:=h;rfl
 .obtain ⟨p,k,n,wd,t,r,rs,M,rfl,tb,n24,w24,q⟩:=h;have rl:=tb.tv.row.1;have hM:=tb.hl;refine ⟨_,((Zbm (pv 0) (@Zcd _ _ _ _ _ 3 rfl (@Zag _ _ _ _ _ (@Zae _ _ 1 _ nd rfl (Or.inl rfl) (Or.inl rfl)) (@Zag _ _ _ _ _ (@Zae _ _ 2 _ nd rfl (Or.inl rfl) (Or.inl rfl)) (@Zag _ _ _ _ _ (@Zae _ _ 3 _ nd rfl (Or.inr rfl) (Or.inl rfl)) (@Za3 _) (by rfl)) (by rfl)) (by rfl)) (by rfl) (by rfl)))<*>(~~~(@Za9 _ _ _ _ _ ((pv 2)<&>((pv 1)<&>((Za6 (own:=["place"]) (fr:=[("rows",3)]) rfl (Zb0 (by kernel_rfl)) (Zgb rfl T.n_range ((pv 2)<&>Zaa)) (λ_ _ _ _=>⟨(@Zae _ _ 0 _ (show (["place","rows"]:List Str).Nodup by decide +kernel) rfl (Or.inr rfl) (Or.inl rfl)),Za1,(Za6 (own:=["row"]) (fr:=[("place",0)]) rfl (Zb0 (by kernel_rfl)) (Zhs K rfl (pv 1)) (λ_ _ _ _=>⟨(@Zae _ _ 0 _ (show (["row","place"]:List Str).Nodup by decide +kernel) rfl (Or.inl rfl) (Or.inr rfl)),Za1,((Zd5 K rfl)<|>(pv 0)<||>(pv 1))⟩))⟩))<&>Zaa)))))),?_⟩;walk_at "wp";refine ⟨_,SqT.of tb.tv.tup,rfl,_,_,rfl,_,_,rfl,_,_,rfl,rfl,?_⟩;refine ⟨_,rfl,_,rfl,by omega,by omega,λD hD=>Zl0 (n:=wd) (λi Hc y=>∃ a,y = .ref a/\RowV Hc p a ((colM M wd).getD i [])/\a ≠ D/\H a = none) (λ⟨a,e,b,c⟩ s=>⟨a,e,b.same s,c⟩) (λ⟨a,e,b,c,d⟩ hD=>⟨a,e,b.put hD c,c,d⟩) hD (by omega) (λi H' Q' hi s' ⟨lD,hlD⟩ q'=>?_) (λys H1 s1 e1 yl hys=>?_)⟩
  .refine ⟨_,rfl,r,rfl,⟨_,SqL.of (s' _ _ tb.tv.lst)⟩,λE1 hE1=>Zcc (λk Hc y=>NumV Hc p y ((M.getD k []).getD i (0,1))) (λk s=>k.same s) (λk hD=>k.put hD) (s' _ _ tb.tv.lst) hE1 (by rw [Jab]; omega) (λk x Hc Qc hx sc _ qc=>?_) (λys Hc sc ec yl yn=>?_)⟩
   .obtain ⟨row,er,a,rfl,vs,hv1,hv2⟩:=(Zay tb.tv.row).at' hx;have rw':=tb.hw row (Jae er);have ei:row[i]? = some (row[i]'(Zhu hi rw')):=Jaa _;obtain ⟨v,ev,nv⟩:=hv2.at ei;have nv':=nv.same (s'.trans sc);have qq:=qc v Hc (Same.refl _);rw [Zah er,Zah ei] at qq;exact ⟨_,rfl,_,rfl,a,vs,((0:Int) + (i:Int)),v,rfl,rfl,SqL.of ((s'.trans sc) _ _ hv1),Zcx (by omega) (by rw [show ((0:Int) + (i:Int)).toNat = i by exact oz47]; exact ev),qq nv'⟩
   .rw [Jab] at yl;have ecol:(colM M wd).getD i [] = Zhn M i:=Zah (by rw [Jad,Jav hi]; rfl);refine q' _ Hc sc ⟨E1,rfl,⟨ys,ec,?_⟩,(Zaj hlD hE1).symm,s'.free hE1⟩;rw [ecol];refine ⟨by rw [Jab]; exact oz58 rl yl,λk y x f1 f2=>?_⟩;rw [Jad] at f2;cases eM:M[k]? with
    | none=>rw [eM] at f2; cases f2
    | some row=>
     rw [eM] at f2;cases f2;have:=yn k y f1;rwa [Zah eM] at this
  .obtain ⟨rs',rfl,a2,nD,fr⟩:=Zii (D:=D) (H1:=H) (p:=p) (M:=colM M wd) (by rw [Jab,Jao]; exact yl) hys;refine ⟨by decide,λt' ht'=>?_⟩;have s2:=Same.new (o:=.tup [V.int wd,V.int n,.ref D]) ht';exact q t' D rs' _ (s1.trans s2) ⟨s1.free ht',hD,fr⟩ ⟨⟨Zab,s2 _ _ e1,a2.mono λ_ _ k=>k.same s2,nD⟩,by rw [Jab,Jao],col_len hM,Zrs tb.hw tb.gd⟩
def Zpi (C:Addr):L2.Sp:=λvs H Q E=>∃ (g t1 r1 t2 r2:Addr) (rs1 rs2:List Addr) (p:Int) (n m w2 k1 k2:Nat) (A B:Mv),vs = [.ref g,.ref t1,.ref t2]/\GAt C H g p/\GroundP p/\TabB H p k1 n m t1 r1 rs1 A/\TabB H p k2 m w2 t2 r2 rs2 B/\n<=24/\m<=24/\w2<=24/\1<=k1/\1<=k2/\(m + 1) * k1 + (m + 1) * k2 + 5<=NB /\
 ∀ t r rs H',Same H H'->New H t r rs->TabB H' p (7 + m * (k1 + k2 + 8)) n w2 t r rs (Zdc p A B w2)->Q (.ref t) H'
theorem Zpt {p:Int} {n m wd k1 k2:Nat} {A B:Mv} (hp:GroundP p) (hl:A.length = n) (hw:∀ xs ∈ A,xs.length = m) (hg:∀ xs ∈ A,Zbc p k1 xs) (hl':B.length = m) (hw':∀ xs ∈ B,xs.length = wd) (hg':∀ xs ∈ B,Zbc p k2 xs):(Zdc p A B wd).length = n/\(∀ xs ∈ Zdc p A B wd,xs.length = wd)/\∀ xs ∈ Zdc p A B wd,Zbc p (7 + m * (k1 + k2 + 8)) xs:=by
 refine ⟨by unfold Zdc; rw [Jab]; exact hl,λxs hx=>?_,λxs hx x hxx=>?_⟩
 .obtain ⟨row,_,rfl⟩:=Jap.mp hx;rw [Jab,Jao]
 .obtain ⟨row,hr,rfl⟩:=Jap.mp hx;obtain ⟨j,hj,rfl⟩:=Jap.mp hxx;have hj:=Ja4.mp hj;have wr:=hw row hr;have gc:=Zl2 hw' hg' hj;have:=Zri hp (k1:=k1) (k2:=k2) (n:=row.length) (f:=λk=>row.getD k (0,1)) (g:=λk=>(Zhn B j).getD k (0,1)) (λi hi=>hg row hr _ (Zap hi)) (λi hi=>gc _ (Zap (by rw [Jab]; exact oz82 hl' wr hi)));rw [wr] at this;refine ⟨?_,?_⟩
  .show Isn p (Zrj p _ _ row.length); rw [wr]; exact this.1
  .show BtN _ (Zrj p _ _ row.length); rw [wr]; exact this.2
theorem ok_prod {f:Addr} {fd:FuncData} (F:Fun K "product" "product" Zee f fd) (T:Txt K mg C) (C_whole_row:Cal P w K mg base "whole_row" 6 (Zsj C)) (C_turned_about:Cal P w K mg base "turned_about" 1 spTa) (C_row_times:Cal P w K mg base "row_times" 7 (spRt C)):FnOk P w K mg base CX0 8 f fd ["ground","one","other"] (Zpi C):=by
 have nd:=Zjh.nd;refine F.ok Zjh (λvs H Q E h=>?_) (λcdv A outer s H vs Q E hr h=>?_)
 .obtain ⟨g,t1,r1,t2,r2,rs1,rs2,p,n,m,w2,k1,k2,A,B,rfl,_⟩:=h;rfl
 .obtain ⟨g,t1,r1,t2,r2,rs1,rs2,p,n,m,w2,k1,k2,A,B,rfl,hg,hp,T1,T2,n24,m24,w24,k11,k21,lim,good⟩:=h;have Zfy:∀ {c A B:Prop} [Decidable c],¬ c->B->if c then A else B:=λhc h=>by rw [if_neg hc]; exact h
  refine ⟨_,((@Za4 _ _ _ _ _ _ _ _ (Zai Zgn (Zaq<|>(pv 1)<||>Zac) (Zaq<|>(pv 2)<||>Zac) (Zan _)) (@Zas _ _ _ Zfr) Zao)<*>((Zf9 (i:=3) (own:=["row"]) (fr:=[("ground",0)]) rfl (Zb0 (by kernel_rfl)) (Zbd (Zaq<|>(pv 1)<||>Zac)) (λ_ _ _ _=>⟨(@Zae _ _ 0 _ (show (["row","ground"]:List Str).Nodup by decide +kernel) rfl (Or.inl rfl) (Or.inr rfl)),Za1,(Za5 C_whole_row hr.m rfl ((pv 1)<&>((pv 0)<&>Zaa)))⟩) nd rfl rfl rfl)<*>((Zar (i:=4) nd rfl (Or.inr rfl) (Za6 (own:=["column"]) (fr:=[("ground",0)]) rfl (Zb0 (by kernel_rfl)) (Zbd (Zaq<|>(Za5 C_turned_about hr.m rfl ((pv 2)<&>Zaa))<||>Zac)) (λ_ _ _ _=>⟨(@Zae _ _ 0 _ (show (["column","ground"]:List Str).Nodup by decide +kernel) rfl (Or.inl rfl) (Or.inr rfl)),Za1,(Za5 C_whole_row hr.m rfl ((pv 1)<&>((pv 0)<&>Zaa)))⟩)))<*>(~~~(@Za9 _ _ _ _ _ ((Zaq<|>(pv 1)<||>Zac)<&>((Zaq<|>(pv 2)<||>Zac)<&>((Za6 (own:=["row"]) (fr:=[("columns",4),("ground",0)]) rfl (Zb0 (by kernel_rfl)) (Zbd (pv 3)) (λ_ _ _ _=>⟨(@Zae _ _ 0 _ (show (["row","columns","ground"]:List Str).Nodup by decide +kernel) rfl (Or.inr rfl) (Or.inl rfl)),Za1,(Za6 (own:=["column"]) (fr:=[("ground",2),("row",0)]) rfl (Zb0 (by kernel_rfl)) (Zhs K rfl (pv 1)) (λ_ _ _ _=>⟨(@Zae _ _ 0 _ (show (["column","ground","row"]:List Str).Nodup by decide +kernel) rfl (Or.inl rfl) (Or.inr rfl)),Za1,(Za5 C_row_times hr.m rfl ((pv 1)<&>((pv 2)<&>((pv 0)<&>Zaa))))⟩))⟩))<&>Zaa)))))))),?_⟩;walk_at "wp";refine ⟨_,SqT.of T1.tv.tup,_,rfl,_,SqT.of T2.tv.tup,_,rfl,rfl,Zfy (by simp) ?_⟩;have la:=T1.tv.row.1;have lb:=T2.tv.row.1;have sA:=T1.hl;have sB:=T2.hl
  -- the rows
  refine ⟨_,rfl,t1,_,2,_,rfl,rfl,SqT.of T1.tv.tup,rfl,r1,rfl,⟨_,SqL.of T1.tv.lst⟩,λD1 hD1=>Zcc (λi Hc y=>∃ t l,y = .ref t/\WRh Hc p t l (A.getD i []) ((m + 1) * k1)/\l ≠ D1) (λ⟨t,l,e,b,c⟩ s=>⟨t,l,e,b.same s,c⟩) (λ⟨t,l,e,b,c⟩ hD=>⟨t,l,e,b.put hD c,c⟩) T1.tv.lst hD1 (by rw [Jab]; omega) (λi x H' Q' hx s' ⟨lD,hlD⟩ q'=>?_) (λys H1 s1 e1 yl hys=>?_)⟩
  .obtain ⟨row,er,a,rfl,rv⟩:=(Zay T1.tv.row).at' hx;have hrow:=Jae er;have wr:=T1.hw row hrow;refine ⟨_,rfl,_,rfl,g,a,p,row,k1,rfl,hg.same s',hp,rv.same s',oz24 m24 wr,T1.gd row hrow,k11,by rw [wr]; omega,λt l zs b H2 s2 fl ht rz wz sz bb=>q' _ H2 s2 ⟨t,l,rfl,?_,(Zaj hlD fl).symm⟩⟩;rw [Zah er];rw [wr] at sz bb;exact ⟨zs,b,ht,rz,wz,sz,bb⟩
  rw [Jab] at yl
  -- the columns
  refine ⟨_,rfl,p,k2,m,w2,t2,r2,rs2,B,rfl,T2.same s1,oz3 m24,oz3 w24,λt3 r3 rs3 H2 s2 nw3 tb3=>?_⟩;have s02:=s1.trans s2;refine ⟨t3,_,2,_,rfl,rfl,SqT.of tb3.tv.tup,rfl,r3,rfl,⟨_,SqL.of tb3.tv.lst⟩,λD2 hD2=>?_⟩;have l3:=tb3.tv.row.1;rw [Jab,Jao] at l3;refine Zcc (λi Hc y=>∃ t l,y = .ref t/\WRh Hc p t l (Zhn B i) ((m + 1) * k2)/\l ≠ D2) (λ⟨t,l,e,b,c⟩ s=>⟨t,l,e,b.same s,c⟩) (λ⟨t,l,e,b,c⟩ hD=>⟨t,l,e,b.put hD c,c⟩) tb3.tv.lst hD2 (by rw [Jab]; exact oz145 w24 l3) (λi x H' Q' hx s' ⟨lD,hlD⟩ q'=>?_) (λzs H3 s3 e3 zl hzs=>?_)
  .obtain ⟨col,ec,a,rfl,rv⟩:=(Zay tb3.tv.row).at' hx;have hi:i < w2:=by
    have:=(Jah.mp ec).1;rwa [Jab,Jao] at this
   have ecol:col = Zhn B i:=by
    rw [Jad,Jav hi] at ec;cases ec;rfl
   subst ecol;have cl:(Zhn B i).length = m:=by rw [Jab]; exact sB
   refine ⟨_,rfl,_,rfl,g,a,p,Zhn B i,k2,rfl,hg.same (s02.trans s'),hp,rv.same s',oz24 m24 cl,Zl2 T2.hw T2.gd hi,k21,by rw [cl]; omega,λt l zs b H4 s4 fl ht rz wz sz bb=>q' _ H4 s4 ⟨t,l,rfl,?_,(Zaj hlD fl).symm⟩⟩;rw [cl] at sz bb;exact ⟨zs,b,ht,rz,wz,sz,bb⟩
  rw [Jab] at zl;have s03:=s02.trans s3;have s13:=s2.trans s3;have e13:=s13 _ _ e1;refine ⟨_,SqT.of (s03 _ _ T1.tv.tup),_,rfl,_,SqT.of (s03 _ _ T2.tv.tup),_,rfl,?_⟩
  -- the rows of the product
  refine ⟨_,rfl,D1,rfl,⟨_,SqL.of e13⟩,λD3 hD3=>Zcc (λi Hc y=>∃ a,y = .ref a/\RowV Hc p a ((Zdc p A B w2).getD i [])/\a ≠ D3/\H3 a = none) (λ⟨a,e,b,c⟩ s=>⟨a,e,b.same s,c⟩) (λ⟨a,e,b,c,d⟩ hD=>⟨a,e,b.put hD c,c,d⟩) e13 hD3 (by omega) (λi x H' Q' hx s' ⟨lD,hlD⟩ q'=>?_) (λus H4 s4 e4 ul hus=>?_)⟩
  .obtain ⟨ti,li,rfl,wri,_⟩:=hys i x hx;have hi:i < A.length:=by have:=(Jah.mp hx).1; exact oz62 la yl this
   have eA:A[i]? = some A[i]:=Jaa hi;rw [Zah eA] at wri;have hrow:=Jaw hi;have wr:=T1.hw _ hrow;refine ⟨_,rfl,D2,rfl,⟨_,SqL.of (s' _ _ e3)⟩,λD4 hD4=>Zcc (λj Hc y=>NumV Hc p y (Zt3 p A[i] (Zhn B j))) (λk s=>k.same s) (λk hD=>k.put hD) (s' _ _ e3) hD4 (oz117 w24 l3 zl) (λj y Hc Qc hy sc _ qc=>?_) (λvs Hc sc ec vl vn=>?_)⟩
   .obtain ⟨tj,lj,rfl,wrj,_⟩:=hzs j y hy;have hj:j < w2:=by have:=(Jah.mp hy).1; exact oz62 l3 zl this
    exact ⟨_,rfl,_,rfl,_,rfl,g,ti,li,tj,lj,p,A[i],Zhn B j,(m + 1) * k1,(m + 1) * k2,rfl,hg.same ((s03.trans s').trans sc),hp,wri.same ((s13.trans s').trans sc),wrj.same (s'.trans sc),by omega,by rw [Jab]; omega,λx hx=>(T1.gd _ hrow x hx).1,λx hx=>(Zl2 T2.hw T2.gd hj x hx).1,lim,λv Hd sd nv=>qc v Hd sd nv⟩
   .refine q' _ Hc sc ⟨D4,rfl,⟨vs,ec,?_⟩,(Zaj hlD hD4).symm,s'.free hD4⟩;have ep:(Zdc p A B w2).getD i [] = (List.range w2).map λj=>Zt3 p A[i] (Zhn B j):=Zah (by unfold Zdc; rw [Jad,eA]; rfl);rw [ep];refine ⟨by rw [Jab,Jao]; exact oz26 l3 zl vl,λj v x f1 f2=>?_⟩;have hj:j < w2:=by have:=(Jah.mp f1).1; omega
    rw [Jad,Jav hj] at f2;cases f2;exact vn j v f1
  .obtain ⟨rs',rfl,a2,nD,fr⟩:=Zii (D:=D3) (H1:=H3) (p:=p) (M:=Zdc p A B w2) (by unfold Zdc; rw [Jab]; exact oz26 la yl ul) hus;refine ⟨by decide,λt' ht'=>?_⟩;have s5:=Same.new (o:=.tup [V.int n,V.int w2,.ref D3]) ht';obtain ⟨g1,g2,g3⟩:=Zpt (wd:=w2) hp T1.hl T1.hw T1.gd T2.hl T2.hw T2.gd;exact good t' D3 rs' _ ((s03.trans s4).trans s5) ⟨(s03.trans s4).free ht',s03.free hD3,λb hb=>s03.free (fr b hb)⟩ ⟨⟨Zab,s5 _ _ e4,a2.mono λ_ _ k=>k.same s5,nD⟩,g1,g2,g3⟩
def Zmk:L2.Sp:=λvs H Q _=>∃ (t1 r1 t2 r2:Addr) (rs1 rs2:List Addr) (p:Int) (k n w1 w2:Nat) (A B:Mv),vs = [.ref t1,.ref t2]/\TabB H p k n w1 t1 r1 rs1 A/\TabB H p k n w2 t2 r2 rs2 B/\n<=200/\w1<=200/\w2<=200 /\
 ∀ t r rs H',Same H H'->New H t r rs->TabB H' p k n (w1 + w2) t r rs ((List.range n).map λi=>A.getD i [] ++ B.getD i [])->Q (.ref t) H'
theorem Ztf {f:Addr} {fd:FuncData} (F:Fun K "_law_pasted" "_law_pasted" Zcl f fd) (T:Txt K mg C):FnOk P w K mg base CX0 1 f fd ["_law_one","_law_other"] Zmk:=by
 have nd:=Zgh.nd;refine F.ok Zgh (λvs H Q E h=>?_) (λcdv A outer s H vs Q E hr h=>?_)
 .obtain ⟨t1,r1,t2,r2,rs1,rs2,p,k,n,w1,w2,A,B,rfl,_⟩:=h;rfl
 .obtain ⟨t1,r1,t2,r2,rs1,rs2,p,k,n,w1,w2,A,B,rfl,T1,T2,n24,w24,w24',q⟩:=h;refine ⟨_,(~~~(@Za9 _ _ _ _ _ ((Zaq<|>(pv 0)<||>Zac)<&>((Zdf<|>(Zaq<|>(pv 0)<||>Zac)<&&>(Zaq<|>(pv 1)<||>Zac))<&>((Za6 (own:=["_law_row","_law_more"]) (fr:=[]) rfl (Zb0 (by kernel_rfl)) (Zhe rfl T.n_zip ((Zaq<|>(pv 0)<||>Zac)<&>((Zaq<|>(pv 1)<||>Zac)<&>Zaa))) (λ_ _ _ _=>⟨(@Zfc _ K rfl _ _ _ _ 2 rfl (@Zag _ _ _ _ _ (@Zae _ _ 0 _ (show (["_law_row","_law_more"]:List Str).Nodup by decide +kernel) rfl (Or.inl rfl) (Or.inr rfl)) (@Zag _ _ _ _ _ (@Zae _ _ 1 _ (show (["_law_row","_law_more"]:List Str).Nodup by decide +kernel) rfl (Or.inl rfl) (Or.inr rfl)) (@Za3 _) (by rfl)) (by rfl)) (by rfl) (by rfl)),Za1,(Zp5<|>(pv 0)<&&>(pv 1))⟩))<&>Zaa))))),?_⟩;walk_at "wp";have la:=T1.tv.row.1;have lb:=T2.tv.row.1;have hA:=T1.hl;have hB:=T2.hl;have tup1:=T1.tv.tup;have tup2:=T2.tv.tup;refine ⟨_,SqT.of tup1,_,rfl,_,SqT.of tup1,_,rfl,_,SqT.of tup2,_,rfl,_,rfl,_,rfl,_,rfl,t1,_,2,_,rfl,rfl,SqT.of tup1,rfl,_,rfl,t2,_,2,_,rfl,rfl,SqT.of tup2,rfl,r1,r2,rfl,⟨_,SqL.of T1.tv.lst⟩,⟨_,SqL.of T2.tv.lst⟩,λD hD=>Zfh (λi Hc y=>∃ a,y = .ref a/\RowV Hc p a (((List.range n).map λi=>A.getD i [] ++ B.getD i []).getD i [])/\a ≠ D/\H a = none) (λ⟨a,e,b,c⟩ s=>⟨a,e,b.same s,c⟩) (λ⟨a,e,b,c,d⟩ hD=>⟨a,e,b.put hD c,c,d⟩) T1.tv.lst T2.tv.lst (by rw [Jab,Jab]; omega) hD (by rw [Jab]; omega) (λi x y H' Q' hx hy s' ⟨lD,hlD⟩ q'=>?_) (λys H1 s1 e1 yl hys=>?_)⟩
  .obtain ⟨row,er,a,rfl,vs,hv1,hv2⟩:=(Zay T1.tv.row).at' hx;obtain ⟨row',er',b,rfl,us,hu1,hu2⟩:=(Zay T2.tv.row).at' hy;have w1':=T1.hw row (Jae er);have w2':=T2.hw row' (Jae er');have l1:=hv2.1;have l2:=hu2.1;have hi:i < n:=by have:=(Jah.mp er).1; exact Ze2 hA this
   refine ⟨_,rfl,_,rfl,a,b,vs,us,rfl,rfl,s' _ _ hv1,s' _ _ hu1,Jcd (Zau (by omega)),λc hc=>q' _ _ (Same.new hc) ⟨c,rfl,?_,(Zaj hlD hc).symm,s'.free hc⟩⟩;have e:((List.range n).map λi=>A.getD i [] ++ B.getD i []).getD i [] = row ++ row':=by
    rw [Zah (show _ = some _ by rw [Jad,Jav hi]; rfl)];show A.getD i [] ++ B.getD i [] = _;rw [Zah er,Zah er']
   rw [e];have sc:=Same.new (o:=.lst (vs ++ us)) hc;exact ⟨_,Zab,(hv2.mono λ_ _ k=>k.same (s'.trans sc)).app (hu2.mono λ_ _ k=>k.same (s'.trans sc))⟩
  .rw [Jab] at yl;obtain ⟨rs',rfl,a2,nD,fr⟩:=Zii (D:=D) (H1:=H) (p:=p) (M:=(List.range n).map λi=>A.getD i [] ++ B.getD i []) (by rw [Jab,Jao]; exact oz127 la hA yl) hys;refine ⟨by decide,λt' ht'=>?_⟩;have s2:=Same.new (o:=.tup [V.int n,V.int ((w1:Int) + (w2:Int)),.ref D]) ht';refine q t' D rs' _ (s1.trans s2) ⟨s1.free ht',hD,fr⟩ ⟨⟨by rw [Zab]; rfl,s2 _ _ e1,a2.mono λ_ _ k=>k.same s2,nD⟩,by rw [Jab,Jao],λxs hx=>?_,λxs hx x hxx=>?_⟩
   .obtain ⟨i,hi,rfl⟩:=Jap.mp hx;have hi:=Ja4.mp hi;rw [Jam,T1.hw _ (Zap (Zck hA hi)),T2.hw _ (Zap (Zck hB hi))]
   .obtain ⟨i,hi,rfl⟩:=Jap.mp hx;have hi:=Ja4.mp hi;rcases Jal.mp hxx with h | h
    .exact T1.gd _ (Zap (Zck hA hi)) x h
    .exact T2.gd _ (Zap (Zck hB hi)) x h
end
end Pf
namespace Pf
open PySem L2 L3 PyProof.Rows
section
variable {F:Type} [Lean.Grind.Field F]
theorem sq_inv {n:Nat} {U S:Nat->Nat->F} (h:∀ i j,i < n->j < n->mm n U S i j = del i j):∀ i j,i < n->j < n->mm n S U i j = del i j:=by
 have inj:∀ v:Nat->F,(∀ i,i < n->sm n (λj=>U i j * v j) = 0)->∀ j,j < n->v j = 0:=by
  intro v hv;obtain ⟨c,⟨j0,hj0,hc0⟩,hc⟩:=Znt n (n + 1) (λi j=>if j < n then S i j else v i) (by omega);have e1:∀ i,i < n->sm n (λj=>S i j * c j) + v i * c n = 0:=λi hi=>by
   have:=hc i hi;show _ = _;rw [show sm (n + 1) (λj=>(if j < n then S i j else v i) * c j) = sm n (λj=>(if j < n then S i j else v i) * c j) + (if n < n then S i n else v i) * c n from rfl,if_neg (Jbs n)] at this;rw [<- this];congr 1;exact Zaf λj hj=>by rw [if_pos hj]
  have e2:∀ i,i < n->c i = 0:=λi hi=>by
   have h1:sm n (λk=>U i k * (sm n (λj=>S k j * c j) + v k * c n)) = 0:=by
    rw [Zaf (g:=λ_=>(0:F)) λk hk=>by rw [e1 k hk]; grind];exact Zdb n
   rw [Zaf (g:=λk=>sm n (λj=>U i k * (S k j * c j)) + U i k * v k * c n) λk hk=>by rw [Zde]; grind,Zjc,Zer,Ze5,hv i hi] at h1;rw [Zaf (g:=λj=>del i j * c j) λj hj=>by
    rw [<- h i j hi hj];show _ = sm n (λk=>U i k * S k j) * c j;rw [<- Ze5];exact Zaf λk _=>by grind] at h1
   have h2:sm n (λj=>del i j * c j) = c i:=by
    rw [Zaf (g:=λj=>if j = i then c j else 0) λj _=>by
     show (if i = j then (1:F) else 0) * c j = _;by_cases e:i = j
     .subst e; rw [if_pos rfl,if_pos rfl]; grind
     .rw [if_neg e,if_neg (λz=>e z.symm)]; grind]
    exact Zg3 c hi
   rw [h2] at h1
   grind
  have hjn:j0 = n:=by
   apply Ja3;intro z;exact hc0 (e2 j0 (Zmp hj0 z))
  subst hjn;intro j hj;have:=e1 j hj;rw [Zaf (g:=λ_=>(0:F)) λk hk=>by rw [e2 k hk]; grind,Zdb] at this
  grind
 intro i j hi hj;have:=inj (λk=>mm n S U k j - del k j) (λl hl=>by
  have e:sm n (λk=>U l k * (mm n S U k j - del k j)) = mm n U (mm n S U) l j - sm n (λk=>U l k * del k j):=by
   have:∀ m:Nat,sm m (λk=>U l k * (mm n S U k j - del k j)) = sm m (λk=>U l k * mm n S U k j) - sm m (λk=>U l k * del k j):=by
    intro m
    induction m with
    | zero=>show (0:F) = 0 - 0; grind
    | succ m ih=>
     show sm m _ + _ = (sm m _ + _) - (sm m _ + _);rw [ih]
     grind
   exact this n
  rw [e,<- Zj8];have e3:mm n (mm n U S) U l j = U l j:=by
   show sm n (λk=>mm n U S l k * U k j) = _;rw [Zaf (g:=λk=>del l k * U k j) λk hk=>by rw [h l k hl hk]];rw [Zaf (g:=λk=>if k = l then U k j else 0) λk _=>by
    show (if l = k then (1:F) else 0) * U k j = _;by_cases e:l = k
    .subst e; rw [if_pos rfl,if_pos rfl]; grind
    .rw [if_neg e,if_neg (λz=>e z.symm)]; grind]
   exact Zg3 _ hl
  have e4:sm n (λk=>U l k * del k j) = U l j:=Zdu _ hj;rw [e3,e4]
  grind) i hi
 grind
end
theorem lr_rk {p:Int} {n wd:Nat} {M D:Mv} {pl:List Nat} (hl:M.length = n) (lr:∀ (F:Type) [Lean.Grind.Field F],FdOk p F->LrF F n wd M D pl):IsRk p n wd M pl.length:=λF _ hF=>by
 have lQ:=lr F hF;have rk:=lQ.rr.rk lQ.sp.symm;rw [Jab,hl] at rk;exact rk.congr λi j hi hj=>by rw [Zcv (Zck hl hi)]
theorem IsRk.uniq {p:Int} {n wd r s:Nat} {M:Mv} (hp:GroundP p) (h:IsRk p n wd M r) (h':IsRk p n wd M s):r = s:=by
 obtain ⟨F,_,hF⟩:=Zew hp;exact (h F hF).uniq (h' F hF)
end Pf
namespace Pf
open PySem L2 L3 PyProof.Rows
noncomputable def negN (p:Int) (x:Nv):Nv:=if p = 0 then (-x.1,x.2) else ((-x.1) % p,1)
noncomputable def frs (pl:List Nat) (w:Nat):List Nat:=(List.range w).filter λc=>decide (c ∉ pl)
theorem frs_mem {pl:List Nat} {w c:Nat}:c ∈ frs pl w ↔ c < w/\c ∉ pl:=by
 unfold frs;rw [Jdb,Ja4,Jcx]
theorem Zlf {pl:List Nat} (asc:∀ i j,i < j->j < pl.length->pl.getD i 0 < pl.getD j 0):pl.Nodup:=by
 refine Jbn.mpr λi j hi hj hij z=>?_;have:=asc i j hij hj;rw [Za0 hi,Za0 hj,z] at this;omega
theorem Zle {xs:List Nat} (nd:xs.Nodup) {i j:Nat} (hi:i < xs.length) (hj:j < xs.length) (e:xs.getD i 0 = xs.getD j 0):i = j:=by
 rw [Za0 hi,Za0 hj] at e;have h:=Jbn.mp nd;rcases Jff i j with k | k | k
 .exact absurd e (h i j hi hj k)
 .exact k
 .exact absurd e.symm (h j i hj hi k)
structure NulV (p:Int) (R:Mv) (pl:List Nat) (w:Nat) (N:Mv):Prop where
 len:N.length = w
 piv:∀ k,k < pl.length->N.getD (pl.getD k 0) [] = (frs pl w).map λa=>negN p ((R.getD k []).getD a (0,1))
 fre:∀ l,l < (frs pl w).length->N.getD ((frs pl w).getD l 0) [] = (zR (frs pl w).length).set l (1,1)
section
variable {p:Int} {R N:Mv} {pl:List Nat} {w n:Nat}
theorem NulV.all (h:NulV p R pl w N) (nd:pl.Nodup) (lt:∀ i,i < pl.length->pl.getD i 0 < w) {c:Nat} (hc:c < w):(∃ k,k < pl.length/\pl.getD k 0 = c)\/∃ l,l < (frs pl w).length/\(frs pl w).getD l 0 = c:=by
 by_cases h:c ∈ pl
 .obtain ⟨k,hk,e⟩:=Zbs h 0;exact .inl ⟨k,hk,e⟩
 .obtain ⟨l,hl,e⟩:=Zbs (frs_mem.mpr ⟨hc,h⟩) 0;exact .inr ⟨l,hl,e⟩
end
end Pf
namespace Pf
open PySem L2 L3 PyProof.Rows
section
variable {P:Program} {w:World} {K:PySem.W.Frag} {mg:Str->Option Value} {base:Heap} {C PL cL:Addr}
theorem Zt0 {a b:Addr} {xs ys:List V} {g:TG} {tb:TS} {Dn:Ends} {σ:L2.St} {H:Hp} (Pv:Nat->L2.St->Hp->Prop) (hlen:ys.length<=xs.length) (h0:Pv 0 σ H) (hl:∀ i σ H,i<=ys.length->Pv i σ H->SqL K H a xs/\SqL K H b ys)
  (hs:∀ (i:Nat) x y p σ H,xs[i]? = some x->ys[i]? = some y->H p = none->Pv i σ H->g (.ref p) σ (upd H p (.tup [x,y])) λσ2 H2=>tb { Dn with nx:=Pv (i + 1),ct:=Pv (i + 1),bk:=Dn.nx } σ2 H2) (hd:∀ σ H,Pv ys.length σ H->Dn.nx σ H):
  ∃ W:Nat->Nat->L2.St->Hp->Prop,(∃ m,W 0 m σ H)/\∀ i m σ H,W i m σ H->
   ((Itz K a b).stop i H/\Dn.nx σ H)\/((Itz K a b).go i H/\∃ N:L2.St->Hp->Prop,(∀ σ' H',N σ' H'->∃ m',m' < m/\W (i + 1) m' σ' H')/\∀ x H',(Itz K a b).yld i H x H'->g x σ H' λσ2 H2=>tb { Dn with nx:=N,ct:=N,bk:=Dn.nx } σ2 H2):=by
 refine ⟨λi m σ H=>m = ys.length - i/\i<=ys.length/\Pv i σ H,⟨ys.length,by simp,Jb3 _,h0⟩,?_⟩;rintro i m σ H ⟨rfl,hi,p⟩;obtain ⟨q1,q2⟩:=hl i σ H hi p;by_cases hlt:i < ys.length
 .refine .inr ⟨⟨xs,ys,xs[i]'(Zr4 hlen hlt),ys[i],q1,q2,Jaa _,Jaa _⟩,Pv (i + 1),λσ' H' p'=>⟨ys.length - (i + 1),oz21 hlt,rfl,hlt,p'⟩,λx H' y=>?_⟩;obtain ⟨u,v,pp,rfl,hp,rfl,e1,e2⟩:=y;exact hs i u v pp σ _ (e1 xs q1) (e2 ys q2) hp p
 .have e:i = ys.length:=by exact Zs3 hi hlt
  subst e;exact .inl ⟨⟨xs,ys,q1,q2,.inr (Jag _)⟩,hd σ H p⟩
theorem pl_at {pl:List Nat} {i:Nat} {y:V} (h:(pl.map λ(j:Nat)=>V.int j)[i]? = some y):i < pl.length/\y = .int ((pl.getD i 0:Nat):Int):=by
 rw [Jad] at h;cases e:pl[i]? with
 | none=>rw [e] at h; cases h
 | some c=>
  rw [e] at h;cases h;exact ⟨(Jah.mp e).1,by rw [Zah e]⟩
theorem Zqk {α:Type} {xs:List α} {i:Nat} {x:α} (nd:xs.Nodup) (hx:x ∉ xs):(xs.set i x).Nodup:=by
 refine Jbn.mpr λa b ha hb hab z=>?_;rw [Jay] at ha hb;rw [List.getElem_set,List.getElem_set] at z;split at z
 .split at z
  .omega
  .exact hx (by rw [z]; exact Jaw hb)
 .split at z
  .exact hx (by rw [<- z]; exact Jaw ha)
  .exact Jbn.mp nd a b ha hb hab z
structure NulH (H H5:Hp) (p:Int) (rz:Addr) (rs:List Addr) (N:Mv):Prop where
 lst:H5 rz = some (.lst (rs.map V.ref))
 row:All2 (RowV H5 p) rs N
 nds:rs.Nodup
 nin:rz ∉ rs
 new:∀ a ∈ rs,H a = none
theorem Zm5 {H:Hp} {n:Nat} {i j:Int}:EqD K H n (.int i) (.int j) (decide (i = j)):=by
 have:=EqD.flat (K:=K) (H:=H) (n:=n) (x:=.int i) (y:=.int j) rfl rfl;have e:eqV (.int i) (.int j) = decide (i = j):=by
  show (i == j) = decide (i = j);exact Jdd.mpr (by rw [Jbx,Jcx])
 rwa [e] at this
theorem Znq {α:Type} {H:Hp} {n:Nat} {a c:Addr} {R:V->α->Prop} {vs us:List V} {xs ys:List α} (hl:xs.length = ys.length) (ha:H a = some (.lst vs)) (hc:H c = some (.lst us)) (h:All2 R vs xs) (h':All2 R us ys)
  (uq:∀ v x y,x ∈ xs->y ∈ ys->R v x->R v y->x = y) (k:∀ v u x y,x ∈ xs->y ∈ ys->R v x->R u y->∃ b,EqD K H n v u b/\(b = true ↔ x = y)):∃ b,EqD K H (n + 1) (.ref a) (.ref c) b/\(b = true ↔ xs = ys):=by
 have l1:=h.1;have l2:=h'.1;have key:∀ i,∃ b,i < vs.length->∃ v u x y,vs[i]? = some v/\us[i]? = some u/\xs[i]? = some x/\ys[i]? = some y/\EqD K H n v u b/\(b = true ↔ x = y):=λi=>by
  by_cases hi:i < vs.length
  .have e1:=Jaa hi;have e2:=Jaa (show i < us.length by omega);have e3:=Jaa (show i < xs.length by exact Ze2 l1 hi);have e4:=Jaa (show i < ys.length by exact oz62 hl l1 hi);obtain ⟨b,hb,hb2⟩:=k _ _ _ _ (Jae e3) (Jae e4) (h.2 i _ _ e1 e3) (h'.2 i _ _ e2 e4);exact ⟨b,λ_=>⟨_,_,_,_,e1,e2,e3,e4,hb,hb2⟩⟩
  .exact ⟨true,λz=>absurd z hi⟩
 by_cases hac:a = c
 .subst hac;rw [ha] at hc;cases hc;refine ⟨true,.same,λ_=>?_,λ_=>rfl⟩;refine Jcm λi=>?_;by_cases hi:i < vs.length
  .have e1:=Jaa hi;have e3:=Jaa (show i < xs.length by exact Ze2 l1 hi);have e4:=Jaa (show i < ys.length by exact oz62 hl l1 hi);rw [e3,e4,uq _ _ _ (Jae e3) (Jae e4) (h.2 i _ _ e1 e3) (h'.2 i _ _ e1 e4)]
  .rw [Jaj (Zs6 l1 hi),Jaj (by omega)]
 .refine ⟨((List.range vs.length).map λi=>Classical.choose (key i)).all id,.list hac (SqL.of ha) (SqL.of hc) (by omega) (by rw [Jab,Jao]) λj x y b f1 f2 f3=>?_,?_⟩
  .have hj:j < vs.length:=(Jah.mp f1).1;rw [Jad,Jav hj] at f3;cases f3;obtain ⟨v,u,x',y',e1,e2,e3,e4,hq,_⟩:=Jb5 (key j) hj;rw [e1] at f1;rw [e2] at f2;cases f1;cases f2;exact hq
  .rw [List.all_map,Jcj];constructor
   .intro hall;refine Jcm λi=>?_;by_cases hi:i < vs.length
    .obtain ⟨v,u,x,y,e1,e2,e3,e4,hq,hxy⟩:=Jb5 (key i) hi;rw [e3,e4,hxy.mp (hall i (Ja4.mpr hi))]
    .rw [Jaj (Zs6 l1 hi),Jaj (by omega)]
   .rintro rfl i hi;have hi:=Ja4.mp hi;obtain ⟨v,u,x,y,e1,e2,e3,e4,hq,hxy⟩:=Jb5 (key i) hi;rw [e3] at e4;cases e4;exact hxy.mpr rfl
theorem Zqg {H:Hp} {p:Int} {v:V} {x y:Nv} (hx:Isn p x) (hy:Isn p y) (h:NumV H p v x) (h':NumV H p v y):x = y:=by
 by_cases hp:p = 0
 .obtain ⟨t,rfl,ht⟩:=h.ref hp;obtain ⟨t',e,ht'⟩:=h'.ref hp;cases e;rw [ht] at ht';simp only [Option.some.injEq,HO.tup.injEq,List.cons.injEq,V.int.injEq,and_true] at ht';exact Jfh ht'.1 ht'.2
 .obtain rfl:=h.int hp;have e:=h'.int hp;have e1:x.1 = y.1:=by simpa using e
  rcases hx with ⟨h,_⟩ | ⟨_,_,_,h1⟩
  .exact absurd h hp
  .rcases hy with ⟨h,_⟩ | ⟨_,_,_,h2⟩
   .exact absurd h hp
   .exact Jfh e1 (h1.trans h2.symm)
theorem num_eqB {H:Hp} {n:Nat} {p:Int} {v u:V} {x y:Nv} (hx:Isn p x) (hy:Isn p y) (h:NumV H p v x) (h':NumV H p u y):∃ b,EqD K H (n + 1) v u b/\(b = true ↔ x = y):=by
 by_cases hp:p = 0
 .obtain ⟨t,rfl,ht⟩:=h.ref hp;obtain ⟨t',rfl,ht'⟩:=h'.ref hp;by_cases e:t = t'
  .subst e;exact ⟨true,.same,λ_=>Zqg hx hy h h',λ_=>rfl⟩
  .refine ⟨[decide (x.1 = y.1),decide (x.2 = y.2)].all id,.tuple e (SqT.of ht) (SqT.of ht') rfl rfl λj a b c f1 f2 f3=>?_,?_⟩
   .match j,f1,f2,f3 with
    | 0,f1,f2,f3=>cases f1; cases f2; cases f3; exact Zm5
    | 1,f1,f2,f3=>cases f1; cases f2; cases f3; exact Zm5
    | j + 2,f1,_,_=>cases f1
   .simp only [List.all_cons,List.all_nil,id,Jfi,Jb7,Jcx];exact ⟨λz=>Jfh z.1 z.2,λz=>by rw [z]; exact ⟨rfl,rfl⟩⟩
 .have e1:=h.int hp;have e2:=h'.int hp;subst e1;subst e2;refine ⟨decide (x.1 = y.1),Zm5,?_⟩;rw [Jcx];refine ⟨λz=>?_,λz=>by rw [z]⟩;rcases hx with ⟨h,_⟩ | ⟨_,_,_,h1⟩
  .exact absurd h hp
  .rcases hy with ⟨h,_⟩ | ⟨_,_,_,h2⟩
   .exact absurd h hp
   .exact Jfh z (h1.trans h2.symm)
theorem row_uq {H:Hp} {p:Int} {a:Addr} {xs ys:List Nv} (hx:∀ x ∈ xs,Isn p x) (hy:∀ y ∈ ys,Isn p y) (h:RowV H p a xs) (h':RowV H p a ys):xs = ys:=by
 obtain ⟨vs,h1,h2⟩:=h;obtain ⟨us,h3,h4⟩:=h';rw [h1] at h3;cases h3;have l1:=h2.1;have l2:=h4.1;refine Jcm λi=>?_;by_cases hi:i < vs.length
 .have e1:=Jaa hi;have e3:=Jaa (show i < xs.length by omega);have e4:=Jaa (show i < ys.length by omega);rw [e3,e4,Zqg (hx _ (Jae e3)) (hy _ (Jae e4)) (h2.2 i _ _ e1 e3) (h4.2 i _ _ e1 e4)]
 .rw [Jaj (by omega),Jaj (by omega)]
theorem row_eqB {H:Hp} {n:Nat} {p:Int} {a c:Addr} {xs ys:List Nv} (hl:xs.length = ys.length) (hx:∀ x ∈ xs,Isn p x) (hy:∀ y ∈ ys,Isn p y) (h:RowV H p a xs) (h':RowV H p c ys):∃ b,EqD K H (n + 2) (.ref a) (.ref c) b/\(b = true ↔ xs = ys):=by
 obtain ⟨vs,h1,h2⟩:=h;obtain ⟨us,h3,h4⟩:=h';exact Znq hl h1 h3 h2 h4 (λv x y m1 m2=>Zqg (hx x m1) (hy y m2)) (λv u x y m1 m2=>num_eqB (hx x m1) (hy y m2))
theorem tab_eqB {H:Hp} {p:Int} {n wd:Nat} {t r t' r':Addr} {rs rs':List Addr} {M N:Mv} (mM:Mat p n wd M) (mN:Mat p n wd N) (h:TabV H p n wd t r rs M) (h':TabV H p n wd t' r' rs' N):∃ bs,Zfj K H 6 [.int n,.int wd,.ref r] [.int n,.int wd,.ref r'] bs/\(bs.all id = true ↔ M = N):=by
 obtain ⟨b,hb,e⟩:=Znq (K:=K) (H:=H) (n:=5) (R:=λv x=>∃ a,v = .ref a/\RowV H p a x) (mM.hl.trans mN.hl.symm) h.lst h'.lst (Zay h.row) (Zay h'.row)
  (λv x y m1 m2 ⟨a,ea,ha⟩ ⟨c,ec,hc⟩=>by subst ea; cases ec; exact row_uq (mM.is x m1) (mN.is y m2) ha hc)
  (λv u x y m1 m2 ⟨a,ea,ha⟩ ⟨c,ec,hc⟩=>by subst ea; subst ec; exact row_eqB (n:=3) ((mM.hw x m1).trans (mN.hw y m2).symm) (mM.is x m1) (mN.is y m2) ha hc)
 refine ⟨[true,true,b],⟨rfl,rfl,λj x y c f1 f2 f3=>?_⟩,?_⟩
 .match j,f1,f2,f3 with
  | 0,f1,f2,f3=>cases f1; cases f2; cases f3; exact Zcb
  | 1,f1,f2,f3=>cases f1; cases f2; cases f3; exact Zcb
  | 2,f1,f2,f3=>cases f1; cases f2; cases f3; exact hb
  | j + 3,f1,_,_=>cases f1
 .rw [<- e];simp
end
end Pf
namespace Pf
open PySem L2 L3 PyProof.Rows
theorem pl_id {pl:List Nat} {n:Nat} (asc:∀ i k,i < k->k < pl.length->pl.getD i 0 < pl.getD k 0) (lt:∀ i,i < pl.length->pl.getD i 0 < n) (e:pl.length = n):∀ i,i < n->pl.getD i 0 = i:=by
 have lo:∀ i,i < n->i<=pl.getD i 0:=by
  intro i
  induction i with
  | zero=>intro _; omega
  | succ i ih=>intro h; have a:=ih (by omega); have b:=asc i (i + 1) (by omega) (by omega); omega
 have hi:∀ d i,i + d + 1 = n->pl.getD i 0<=i:=by
  intro d
  induction d with
  | zero=>intro i h; have:=lt i (by omega); omega
  | succ d ih=>intro i h; have a:=ih (i + 1) (by omega); have b:=asc i (i + 1) (by omega) (by omega); omega
 intro i h;have a:=lo i h;have b:=hi (n - 1 - i) i (by omega);omega
theorem Zhp {p:Int} (hp:GroundP p) (n:Nat):Mat p n n (Zcq n):=by
 obtain ⟨i0,i1⟩:=Zlp hp;refine ⟨by rw [Jab,Jao],λxs hx=>?_,λxs hx x hxx=>?_⟩
 .obtain ⟨i,_,rfl⟩:=Jap.mp hx;rw [Jay,Ja9]
 .obtain ⟨i,_,rfl⟩:=Jap.mp hx;rcases Jar hxx with h | h
  .rw [Jea h]; exact i0
  .rw [h]; exact i1
section
variable {p:Int} {k n:Nat} {M S R:Mv} {pl:List Nat}
theorem Zix (hp:GroundP p) (h7:7<=k) (I:IsRed p k n n M S R pl) (hl:M.length = n) (hw:∀ xs ∈ M,xs.length = n) (hg:∀ xs ∈ M,Zbc p k xs):R = Zcq n ↔ pl.length = n:=by
 obtain ⟨F,_,hF⟩:=Zew hp;have fd:=I.fd hp h7 hF hl hw hg;obtain ⟨g1,g2,g3,g4⟩:=I.good hp h7 hl hw;have mR:Mat p n n R:=⟨g2,λxs hx=>(g4 xs hx).1,λxs hx x hxx=>((g4 xs hx).2 x hxx).1⟩
 have rl:=fd.rr.rl;rw [Jab,g2] at rl;constructor
 .rintro rfl;apply Ja3;intro z;have h0:=fd.rr.zer pl.length pl.length (Jag _) (by rw [Jab,g2]; exact oz10 rl z) (oz10 rl z);rw [Zcv (oz116 rl g2 z),Zd8 (oz10 rl z) (oz10 rl z)] at h0;have h1:(if pl.length = pl.length then (1:F) else 0) = 0:=h0;rw [if_pos rfl] at h1;exact Zo1 h1
 .intro e;have id:=pl_id fd.rr.mono fd.rr.cn e;refine Zlk hF mR (Zhp hp n) λi j hi hj=>?_;have h0:=fd.rr.piv i j (Zck e hi) (Zck e hj);have e2:pl.getD j 0 = j:=id j hj;rw [Zcv (Zck g2 hi)] at h0;show _ = _;rw [Zd8 hi hj,<- h0];show _ = vN (R.getD i []) (pl.getD j 0);rw [e2]
theorem IsRed.rk (hp:GroundP p) (h7:7<=k) (I:IsRed p k n n M S R pl) (hl:M.length = n) (hw:∀ xs ∈ M,xs.length = n) (hg:∀ xs ∈ M,Zbc p k xs):IsRk p n n M pl.length:=λF _ hF=>by
 have fd:=I.fd hp h7 hF hl hw hg;have rk:=fd.rr.rk fd.sp.symm;rw [Jab,hl] at rk;exact rk.congr λi j hi hj=>by rw [Zcv (Zck hl hi)]
theorem Zjw (hp:GroundP p) (h7:7<=k) (I:IsRed p k n n M S R pl) (hl:M.length = n) (hw:∀ xs ∈ M,xs.length = n) (hg:∀ xs ∈ M,Zbc p k xs) (e:R = Zcq n):Zdc p S M n = Zcq n/\Zdc p M S n = Zcq n:=by
 obtain ⟨F,_,hF⟩:=Zew hp;have fd:=I.fd hp h7 hF hl hw hg;obtain ⟨g1,g2,g3,g4⟩:=I.good hp h7 hl hw;have mS:Mat p n n S:=⟨g1,λxs hx=>(g3 xs hx).1,λxs hx x hxx=>((g3 xs hx).2 x hxx).1⟩
 have mM:Mat p n n M:=⟨hl,hw,λxs hx x hxx=>(hg xs hx x hxx).1⟩
 have h1:∀ i j,i < n->j < n->mm n (λa b=>(vN (S.getD a []) b:F)) (λa b=>vN (M.getD a []) b) i j = del i j:=λi j hi hj=>by
  have:=fd.mul i j hi hj;rw [e,Zd8 hi hj] at this;exact this.symm
 have h2:=sq_inv h1;refine ⟨Zlk hF (Zj5 hp mS mM) (Zhp hp n) λi j hi hj=>?_,Zlk hF (Zj5 hp mM mS) (Zhp hp n) λi j hi hj=>?_⟩
 .rw [Zgx hp hF mS mM hi hj,Zd8 hi hj];exact h1 i j hi hj
 .rw [Zgx hp hF mM mS hi hj,Zd8 hi hj];exact h2 i j hi hj
theorem Zrz {k2:Nat} {S2 R2:Mv} {pl2:List Nat} (hp:GroundP p) (h7:7<=k2) (mM:Mat p n n M) (hl:S.length = n) (hw:∀ xs ∈ S,xs.length = n) (hg:∀ xs ∈ S,Zbc p k2 xs) (e1:Zdc p S M n = Zcq n) (e2:Zdc p M S n = Zcq n) (I:IsRed p k2 n n S S2 R2 pl2):R2 = Zcq n/\S2 = M:=by
 obtain ⟨F,_,hF⟩:=Zew hp;have mS:Mat p n n S:=⟨hl,hw,λxs hx x hxx=>(hg xs hx x hxx).1⟩
 have h2:∀ i j,i < n->j < n->mm n (λa b=>(vN (M.getD a []) b:F)) (λa b=>vN (S.getD a []) b) i j = del i j:=λi j hi hj=>by
  have:=Zgx hp hF mM mS hi hj;rw [e2,Zd8 hi hj] at this;exact this.symm
 have h1:∀ i j,i < n->j < n->mm n (λa b=>(vN (S.getD a []) b:F)) (λa b=>vN (M.getD a []) b) i j = del i j:=λi j hi hj=>by
  have:=Zgx hp hF mS mM hi hj;rw [e1,Zd8 hi hj] at this;exact this.symm
 have rk1:=I.rk hp h7 hl hw hg F hF;have rk2:Rk (λa b=>(vN (S.getD a []) b:F)) n n n:=Rk.of_left h2;have er:R2 = Zcq n:=(Zix hp h7 I hl hw hg).mpr (rk1.uniq rk2);refine ⟨er,?_⟩;obtain ⟨b1,_⟩:=Zjw hp h7 I hl hw hg er;obtain ⟨g1,g2,g3,g4⟩:=I.good hp h7 hl hw;have mS2:Mat p n n S2:=⟨g1,λxs hx=>(g3 xs hx).1,λxs hx x hxx=>((g3 xs hx).2 x hxx).1⟩
 have h3:∀ i j,i < n->j < n->mm n (λa b=>(vN (S2.getD a []) b:F)) (λa b=>vN (S.getD a []) b) i j = del i j:=λi j hi hj=>by
  have:=Zgx hp hF mS2 mS hi hj;rw [b1,Zd8 hi hj] at this;exact this.symm
 refine Zlk hF mS2 mM λi j hi hj=>?_;have as:=Zj8 n n (λa b=>(vN (S2.getD a []) b:F)) (λa b=>vN (S.getD a []) b) (λa b=>vN (M.getD a []) b) i j;have l1:mm n (mm n (λa b=>(vN (S2.getD a []) b:F)) (λa b=>vN (S.getD a []) b)) (λa b=>vN (M.getD a []) b) i j = vN (M.getD i []) j:=by
  show sm n (λl=>mm n (λa b=>(vN (S2.getD a []) b:F)) (λa b=>vN (S.getD a []) b) i l * vN (M.getD l []) j) = _;rw [Zaf (g:=λl=>(if l = i then 1 else 0) * vN (M.getD l []) j) λl hl'=>by
   rw [h3 i l hi hl'];show (if i = l then (1:F) else 0) * _ = _;by_cases z:i = l
   .subst z; rw [if_pos rfl]
   .rw [if_neg z,if_neg λy=>z y.symm]]
  exact Zum _ hi
 have l2:mm n (λa b=>(vN (S2.getD a []) b:F)) (mm n (λa b=>(vN (S.getD a []) b:F)) (λa b=>vN (M.getD a []) b)) i j = vN (S2.getD i []) j:=by
  show sm n (λl=>vN (S2.getD i []) l * mm n (λa b=>(vN (S.getD a []) b:F)) (λa b=>vN (M.getD a []) b) l j) = _;rw [Zaf (g:=λl=>vN (S2.getD i []) l * (if l = j then 1 else 0)) λl hl'=>by rw [h1 l j hl' hj]];exact Zdu _ hj
 rw [<- l1,as,l2]
end
end Pf
namespace Pf
open PySem L2 L3 PyProof.Rows
abbrev jnM (M B:Mv) (n:Nat):Mv:=(List.range n).map λj=>M.getD j [] ++ B.getD j []
theorem Zq1 {M B:Mv} {n w b:Nat} (hl:M.length = n) (hw:∀ xs ∈ M,xs.length = w) (hl':B.length = n) (hw':∀ xs ∈ B,xs.length = b):∀ xs ∈ jnM M B n,xs.length = w + b:=λxs hx=>by
 obtain ⟨j,hj,rfl⟩:=Jap.mp hx;have hj:=Ja4.mp hj;rw [Jam,hw _ (Zap (Zck hl hj)),hw' _ (Zap (Zck hl' hj))]
theorem Zq2 {p:Int} {M B:Mv} {n k:Nat} (hl:M.length = n) (hg:∀ xs ∈ M,Zbc p k xs) (hl':B.length = n) (hg':∀ xs ∈ B,Zbc p k xs):∀ xs ∈ jnM M B n,Zbc p k xs:=λxs hx x hxx=>by
 obtain ⟨j,hj,rfl⟩:=Jap.mp hx;have hj:=Ja4.mp hj;rcases Jal.mp hxx with h | h
 .exact hg _ (Zap (Zck hl hj)) x h
 .exact hg' _ (Zap (Zck hl' hj)) x h
section
variable {F:Type} [Lean.Grind.Field F]
theorem sm_le {n r:Nat} (h:r<=n) {f:Nat->F} (hz:∀ l,r<=l->l < n->f l = 0):sm n f = sm r f:=by
 induction n with
 | zero=>rw [show r = 0 by omega]
 | succ n ih=>
  by_cases e:r = n + 1
  .rw [e]
  .show sm n f + f n = _;rw [ih (oz53 h e) (λl h1 h2=>hz l h1 (Zfw h2)),hz n (oz53 h e) (by omega)]
   grind
theorem Zot {M B:Mv} {n w i j:Nat} (hl:M.length = n) (hw:∀ xs ∈ M,xs.length = w) (hi:i < n):(vN ((jnM M B n).getD i []) j:F) = if j < w then vN (M.getD i []) j else vN (B.getD i []) (j - w):=by
 have e:(jnM M B n).getD i [] = M.getD i [] ++ B.getD i []:=Zah (by rw [Jad,Jav hi]; rfl);rw [e,Zui,hw _ (Zap (Zck hl hi))]
structure JnF (F:Type) [Lean.Grind.Field F] (n w b:Nat) (M B J:Mv) (pl:List Nat):Prop where
 rr:RR (J.map (vN (F:=F))) w pl.length (λi=>pl.getD i 0)
 len:J.length = n
 co:∀ i,i < n->∃ co:Nat->F,(∀ k,k < pl.length->co k = vN (M.getD i []) (pl.getD k 0))/\∀ j,vN ((jnM M B n).getD i []) j = sm n λl=>co l * vN (J.getD l []) j
 ge:∀ l,l < n->∃ c:Nat->F,∀ j,vN (J.getD l []) j = sm n λi=>c i * vN ((jnM M B n).getD i []) j
theorem Zq3 {p:Int} {k n w b:Nat} {M B J:Mv} {pl:List Nat} (hp:GroundP p) (h7:7<=k) (hF:FdOk p F) (rd:Red p k w (jnM M B n) J pl) (hl:M.length = n) (hw:∀ xs ∈ M,xs.length = w) (hg:∀ xs ∈ M,Zbc p k xs) (hl':B.length = n) (hw':∀ xs ∈ B,xs.length = b) (hg':∀ xs ∈ B,Zbc p k xs):JnF F n w b M B J pl:=by
 have jw:=Zq1 hl hw hl' hw';have jg:=Zq2 hl hg hl' hg';obtain ⟨g1,g2,g3⟩:=rd.good hp h7 jw;rw [Jab,Jao] at g1;obtain ⟨rr,sp⟩:=rd.rr hp hF jw (λxs hx x hxx=>(jg xs hx x hxx).1);have rl:=rr.rl;rw [Jab] at rl;have ll:(jnM M B n).length = n:=by rw [Jab,Jao]
 refine ⟨rr,g1,λi hi=>?_,λl hl'=>?_⟩
 .obtain ⟨c,hc⟩:=(sp.ge _ (Jap.mpr ⟨_,Zap (d:=[]) (show i < (jnM M B n).length by exact Zck ll hi),rfl⟩)).coef;rw [Jab,g1] at hc;have hc':∀ j,vN ((jnM M B n).getD i []) j = sm n λl=>c l * vN (J.getD l []) j:=λj=>by
   rw [hc j];exact Zaf λl hl'=>by rw [Zcv (Zck g1 hl')]
  refine ⟨c,λk hk=>?_,hc'⟩;have cw:pl.getD k 0 < w:=rr.cn k hk;have e:=hc' (pl.getD k 0);rw [Zot hl hw hi,if_pos cw] at e;rw [e];have e2:sm n (λl=>c l * vN (J.getD l []) (pl.getD k 0)) = sm n λl=>if l = k then c l else 0:=Zaf λl hl'=>by
   by_cases hlr:l < pl.length
   .have:=rr.piv l k hlr hk;rw [Zcv (Zck g1 hl')] at this;have h2:(vN (J.getD l []) (pl.getD k 0):F) = if l = k then 1 else 0:=this
    rw [h2];by_cases z:l = k
    .rw [if_pos z,if_pos z]; grind
    .rw [if_neg z,if_neg z]; grind
   .have:=rr.zer l (pl.getD k 0) (Zhf hlr) (by rw [Jab]; exact Zck g1 hl') cw;rw [Zcv (Zck g1 hl')] at this;rw [this,if_neg (oz123 hk hlr)]
    grind
  rw [e2,Zg3 _ (oz147 g1 rl hk)]
 .obtain ⟨c,hc⟩:=(sp.le _ (Jap.mpr ⟨_,Zap (d:=[]) (show l < J.length by exact Zck g1 hl'),rfl⟩)).coef;rw [Jab,ll] at hc;refine ⟨c,λj=>?_⟩;rw [hc j];exact Zaf λi hi=>by rw [Zcv (by rw [ll]; exact hi)]
end
theorem jn_rk {p:Int} {k n w b:Nat} {M B J:Mv} {pl:List Nat} (hp:GroundP p) (h7:7<=k) (rd:Red p k w (jnM M B n) J pl) (hl:M.length = n) (hw:∀ xs ∈ M,xs.length = w) (hg:∀ xs ∈ M,Zbc p k xs) (hl':B.length = n) (hw':∀ xs ∈ B,xs.length = b) (hg':∀ xs ∈ B,Zbc p k xs):IsRk p n w M pl.length:=λF _ hF=>by
 have jf:=Zq3 hp h7 hF rd hl hw hg hl' hw' hg';have rl:=jf.rr.rl;rw [Jab,jf.len] at rl;refine ⟨⟨λi k=>vN (M.getD i []) (pl.getD k 0),λk j=>vN (J.getD k []) j,λi j hi hj=>?_⟩,?_⟩
 .obtain ⟨co,h1,h2⟩:=jf.co i hi;have e:=h2 j;rw [Zot hl hw hi,if_pos hj] at e;rw [e,sm_le rl λl a b=>by
   have:=jf.rr.zer l j a (by rw [Jab,jf.len]; exact b) hj;rw [Zcv (by rw [jf.len]; exact b)] at this;rw [this]
   grind]
  exact Zaf λk hk=>by rw [h1 k hk]
 .have ge:∀ l,l < n->∃ c:Nat->F,∀ j,j < w->vN (J.getD l []) j = sm n λi=>c i * vN (M.getD i []) j:=λl hl2=>by
   obtain ⟨c,hc⟩:=jf.ge l hl2;exact ⟨c,λj hj=>by
    rw [hc j];exact Zaf λi hi=>by rw [Zot hl hw hi,if_pos hj]⟩
  refine ⟨λl a=>if h:l < n then Classical.choose (ge l h) a else 0,λb k=>if b = pl.getD k 0 then 1 else 0,λi k hi hk=>?_⟩;have hin:i < n:=by exact Zr4 rl hi
  have cw:pl.getD k 0 < w:=jf.rr.cn k hk;have hs:=Jb5 (ge i hin) (pl.getD k 0) cw;have pv:=jf.rr.piv i k hi hk;rw [Zcv (by rw [jf.len]; exact hin)] at pv;rw [<- pv];show _ = vN (J.getD i []) (pl.getD k 0);rw [hs];refine Zaf λa ha=>?_;show (if h:i < n then Classical.choose (ge i h) a else 0) * sm w (λb=>vN (M.getD a []) b * (if b = pl.getD k 0 then 1 else 0)) = _;rw [dif_pos hin,Zdu _ cw]
structure LedV (J:Mv) (pl:List Nat) (w b:Nat) (X:Mv):Prop where
 len:X.length = w
 piv:∀ k,k < pl.length->X.getD (pl.getD k 0) [] = (J.getD k []).drop w
 fre:∀ c,c < w->c ∉ pl->X.getD c [] = zR b
section
variable {p:Int} {k n w b:Nat} {M B J X:Mv} {pl:List Nat}
def Zi0 (J:Mv) (pl:List Nat) (n w b:Nat):Prop:=∀ l j,pl.length<=l->l < n->j < b->((J.getD l []).drop w).getD j (0,1) = (0,1)
theorem tail_fd {F:Type} [Lean.Grind.Field F] (h:Zi0 J pl n w b) {l j:Nat} (h1:pl.length<=l) (h2:l < n) (h3:j < b):(vN (J.getD l []) (w + j):F) = 0:=by
 rw [<- Zjz];unfold vN;rw [h l j h1 h2 h3];exact Zfe
theorem led_at {F:Type} [Lean.Grind.Field F] (L:LedV J pl w b X) (nd:pl.Nodup) {c j:Nat} (hc:c < w) (hj:j < b):(vN (X.getD c []) j:F) = sm pl.length λk=>del c (pl.getD k 0) * vN (J.getD k []) (w + j):=by
 by_cases h:c ∈ pl
 .obtain ⟨i,hi,rfl⟩:=Zbs h 0;rw [L.piv i hi,Zjz];rw [Zaf (g:=λk=>if k = i then (vN (J.getD k []) (w + j):F) else 0) λk hk=>by
   show (if pl.getD i 0 = pl.getD k 0 then (1:F) else 0) * _ = _;by_cases e:k = i
   .subst e; rw [if_pos rfl,if_pos rfl]; grind
   .rw [if_neg λz=>e (Zle nd hk hi z.symm),if_neg e]; grind]
  exact (Zg3 (λk=>(vN (J.getD k []) (w + j):F)) hi).symm
 .rw [L.fre c hc h];have e:(vN (zR b) j:F) = 0:=by
   unfold vN;rw [Jac,Jbw,if_pos hj];exact Zfe
  rw [e,Zaf (g:=λ_=>(0:F)) λk hk=>by
   rw [show (del c (pl.getD k 0):F) = 0 from if_neg λ(z:c = pl.getD k 0)=>h (by rw [z]; exact Zap hk)]
   grind]
  exact (Zdb (F:=F) _).symm
theorem Zqy (L:LedV J pl w b X) (hp:GroundP p) (lt:∀ i,i < pl.length->pl.getD i 0 < w) (rl:pl.length<=J.length) (jw:∀ xs ∈ J,xs.length = w + b) {kk:Nat} (h7:7<=kk) (jg:∀ xs ∈ J,Zbc p kk xs):Mat p w b X/\∀ xs ∈ X,Zbc p kk xs:=by
 obtain ⟨i0,i1⟩:=Zlp hp;have key:∀ xs ∈ X,xs.length = b/\Zbc p kk xs:=λxs hx=>by
  obtain ⟨c,hc,rfl⟩:=Zbs hx [];rw [L.len] at hc;by_cases h:c ∈ pl
  .obtain ⟨i,hi,rfl⟩:=Zbs h 0;rw [L.piv i hi];have hm:J.getD i [] ∈ J:=Zap (Zr4 rl hi);exact ⟨by rw [Jbm,jw _ hm]; exact oz9,λx hxx=>jg _ hm x (Jco hxx)⟩
  .rw [L.fre c hc h];refine ⟨by rw [Ja9],λx hxx=>?_⟩;rw [Jea hxx];exact ⟨i0,Zg1 _,Zaz h7 (by decide)⟩
 exact ⟨⟨L.len,λxs hx=>(key xs hx).1,λxs hx x hxx=>((key xs hx).2 x hxx).1⟩,λxs hx=>(key xs hx).2⟩
theorem led_yes (hp:GroundP p) (h7:7<=k) (rd:Red p k w (jnM M B n) J pl) (hl:M.length = n) (hw:∀ xs ∈ M,xs.length = w) (hg:∀ xs ∈ M,Zbc p k xs) (hl':B.length = n) (hw':∀ xs ∈ B,xs.length = b) (hg':∀ xs ∈ B,Zbc p k xs) (nt:Zi0 J pl n w b) (L:LedV J pl w b X):Zdc p M X b = B/\∀ s,IsRk p n (w + b) (jnM M B n) s->s = pl.length:=by
 obtain ⟨F,_,hF⟩:=Zew hp;have jf:=Zq3 hp h7 hF rd hl hw hg hl' hw' hg';obtain ⟨g1,g2,g3⟩:=rd.good hp h7 (Zq1 hl hw hl' hw');have rl:=jf.rr.rl;rw [Jab,jf.len] at rl;have nd:pl.Nodup:=Zlf jf.rr.mono;have n7:7<=Zdh p k (w + b) w:=by
  unfold Zdh;split
  .have h1:((w + b + 1) * k + 1) * 1<=((w + b + 1) * k + 1) * 2 ^ (2 * w):=Jaz (Jag _) (Jbj _);have h2:7<=(w + b + 1) * k:=by rw [Jb6]; omega
   omega
  .exact Jag _
 obtain ⟨mX,_⟩:=Zqy L hp jf.rr.cn (by rw [jf.len]; exact rl) g2 n7 g3;have mM:Mat p n w M:=⟨hl,hw,λxs hx x hxx=>(hg xs hx x hxx).1⟩
 have mB:Mat p n b B:=⟨hl',hw',λxs hx x hxx=>(hg' xs hx x hxx).1⟩
 have key:∀ i j,i < n->j < b->(vN (B.getD i []) j:F) = sm w λc=>vN (M.getD i []) c * vN (X.getD c []) j:=λi j hi hj=>by
  obtain ⟨co,h1,h2⟩:=jf.co i hi;have e:=h2 (w + j);rw [Zot hl hw hi,if_neg Zs4,show w + j - w = j by exact oz9] at e;rw [e,sm_le rl λl a c=>by rw [tail_fd nt a c hj]; grind];rw [Zaf (g:=λc=>sm pl.length λk=>vN (M.getD i []) c * (del c (pl.getD k 0) * vN (J.getD k []) (w + j))) (f:=λc=>vN (M.getD i []) c * vN (X.getD c []) j) λc hc=>by rw [led_at L nd hc hj,Zde],Zer];refine Zaf λk hk=>?_;rw [h1 k hk,Zaf (g:=λc=>(vN (M.getD i []) c * vN (J.getD k []) (w + j)) * (if c = pl.getD k 0 then 1 else 0)) λc _=>by
   show vN (M.getD i []) c * ((if c = pl.getD k 0 then (1:F) else 0) * _) = _
   grind]
  rw [Zdu _ (jf.rr.cn k hk)]
 refine ⟨Zlk hF (Zj5 hp mM mX) mB λi j hi hj=>?_,λs hs=>?_⟩
 .rw [Zgx hp hF mM mX hi hj,key i j hi hj]
 .have rM:=jn_rk hp h7 rd hl hw hg hl' hw' hg' F hF;have k1:s<=pl.length:=rM.mul_l (B:=λc j=>if j < w then (if j = c then 1 else 0) else vN (X.getD c []) (j - w)) (l:=w + b) ((hs F hF).congr λi j hi hj=>by
   rw [Zot hl hw hi];show _ = sm w λc=>vN (M.getD i []) c * (if j < w then (if j = c then 1 else 0) else vN (X.getD c []) (j - w));by_cases h:j < w
   .rw [if_pos h,Zaf (g:=λc=>vN (M.getD i []) c * (if j = c then 1 else 0)) λc _=>by rw [if_pos h],Zgg _ h]
   .rw [if_neg h,Zaf (g:=λc=>vN (M.getD i []) c * vN (X.getD c []) (j - w)) λc _=>by rw [if_neg h]];exact key i (j - w) hi (by omega))
  have k2:pl.length<=s:=(hs F hF).mul_l (B:=λa c=>if c = a then 1 else 0) (l:=w) (rM.congr λi j hi hj=>by
   show _ = sm (w + b) λc=>vN ((jnM M B n).getD i []) c * (if j = c then 1 else 0);rw [Zgg _ (by omega),Zot hl hw hi,if_pos hj])
  exact oz115 k1 k2
theorem sm_pull {F:Type} [Lean.Grind.Field F] (n m:Nat) (P:Nat->F) (A:Nat->Nat->F) (Q:Nat->F):sm n (λa=>P a * sm m λb=>A a b * Q b) = sm m λb=>sm n (λa=>P a * A a b) * Q b:=by
 rw [Zaf (g:=λa=>sm m λb=>P a * (A a b * Q b)) λa _=>by rw [Zde],Zer];refine Zaf λb _=>?_;rw [<- Ze5];exact Zaf λa _=>by grind
theorem led_no (hp:GroundP p) (h7:7<=k) (rd:Red p k w (jnM M B n) J pl) (hl:M.length = n) (hw:∀ xs ∈ M,xs.length = w) (hg:∀ xs ∈ M,Zbc p k xs) (hl':B.length = n) (hw':∀ xs ∈ B,xs.length = 1) (hg':∀ xs ∈ B,Zbc p k xs) (nt:¬ Zi0 J pl n w 1) (s:Nat) (hs:IsRk p n (w + 1) (jnM M B n) s):s ≠ pl.length:=by
 obtain ⟨F,_,hF⟩:=Zew hp;have jf:=Zq3 hp h7 hF rd hl hw hg hl' hw' hg';obtain ⟨g1,g2,g3⟩:=rd.good hp h7 (Zq1 hl hw hl' hw');have rl:=jf.rr.rl;rw [Jab,jf.len] at rl;have ex:∃ l,pl.length<=l/\l < n/\(vN (J.getD l []) w:F) ≠ 0:=by
  apply Ja3;intro z;apply nt;intro l j h1 h2 h3;have hz:(vN (J.getD l []) w:F) = 0:=Ja3 λy=>z ⟨l,h1,h2,y⟩;have hm:J.getD l [] ∈ J:=Zap (by rw [jf.len]; exact h2);have hin:w + j < (J.getD l []).length:=by rw [g2 _ hm]; omega
  have e:((J.getD l []).drop w).getD j (0,1) = (J.getD l []).getD (w + j) (0,1):=by simp only [Jac,Jcw]
  rw [e];refine hF.inj (g3 _ hm _ (Zap hin)).1 (Zlp hp).1 ?_;rw [Zfe];have e0:w + j = w:=by omega
  rw [e0];exact hz
 obtain ⟨l0,q1,q2,q3⟩:=ex;generalize ht:(vN (J.getD l0 []) w:F) = t at q3;intro es;have rowE:∀ l,l < n->∃ c:Nat->F,∀ j,vN (J.getD l []) j = sm n λi=>c i * vN ((jnM M B n).getD i []) j:=jf.ge;obtain ⟨⟨Bf,Cf,hfac⟩,_⟩:=hs F hF
 -- the row that leads at i
 let Jr:Nat->Nat->F:=λi b=>if i < pl.length then vN (J.getD i []) b else vN (J.getD l0 []) b * (1 / t)
 have hP:∀ i,∃ c:Nat->F,i < pl.length + 1->∀ b,sm n (λa=>c a * vN ((jnM M B n).getD a []) b) = Jr i b:=λi=>by
  by_cases h:i < pl.length
  .obtain ⟨c,hc⟩:=rowE i (oz97 q1 q2 h);exact ⟨c,λ_ b=>by rw [<- hc b]; show _ = (if i < pl.length then _ else _); rw [if_pos h]⟩
  .obtain ⟨c,hc⟩:=rowE l0 q2;refine ⟨λa=>c a * (1 / t),λ_ b=>?_⟩;show _ = (if i < pl.length then _ else _);rw [if_neg h,hc b,<- Ze5];exact Zaf λa _=>by grind
 have key:=Zh3 (m:=n) (n:=w + 1) (r:=s) (s:=pl.length + 1) (A:=λi j=>(vN ((jnM M B n).getD i []) j:F)) (B:=Bf) (C:=Cf) (P:=λi a=>Classical.choose (hP i) a) (Q:=λb k=>if k < pl.length then (if b = pl.getD k 0 then 1 else 0) else (if b = w then 1 else 0) - sm pl.length λq=>vN (J.getD q []) w * (if b = pl.getD q 0 then 1 else 0)) hfac λi k hi hk=>by
  rw [sm_pull,Zaf (g:=λb=>Jr i b * (if k < pl.length then (if b = pl.getD k 0 then 1 else 0) else (if b = w then 1 else 0) - sm pl.length λq=>vN (J.getD q []) w * (if b = pl.getD q 0 then 1 else 0))) λb _=>by rw [Jb5 (hP i) hi b]];have lead:∀ q,q < pl.length->Jr i (pl.getD q 0) = if i = q then 1 else 0:=λq hq=>by
   have cw:=jf.rr.cn q hq;by_cases h:i < pl.length
   .have pv:=jf.rr.piv i q h hq;rw [Zcv (by rw [jf.len]; exact oz97 q1 q2 h)] at pv;show (if i < pl.length then _ else _) = _;rw [if_pos h];exact pv
   .have z:=jf.rr.zer l0 (pl.getD q 0) q1 (by rw [Jab,jf.len]; exact q2) cw;rw [Zcv (by rw [jf.len]; exact q2)] at z;show (if i < pl.length then _ else _) = _;rw [if_neg h,z,if_neg (oz123 hq h)]
    grind
  by_cases hk2:k < pl.length
  .rw [Zaf (g:=λb=>Jr i b * (if b = pl.getD k 0 then 1 else 0)) λb _=>by rw [if_pos hk2],Zdu _ (by have:=jf.rr.cn k hk2; exact Zfw this),lead k hk2]
  .have ek:k = pl.length:=by exact oz12 hk hk2
   rw [Zaf (g:=λb=>Jr i b * (if b = w then 1 else 0) - Jr i b * sm pl.length λq=>vN (J.getD q []) w * (if b = pl.getD q 0 then 1 else 0)) λb _=>by rw [if_neg hk2]; grind];have sub:∀ (m:Nat) (a b:Nat->F),sm m (λj=>a j - b j) = sm m a - sm m b:=by
    intro m a b
    induction m with
    | zero=>show (0:F) = 0 - 0; grind
    | succ m ih=>
     show sm m _ + _ = (sm m _ + _) - (sm m _ + _);rw [ih]
     grind
   rw [sub,Zdu _ (by omega)];have e2:sm (w + 1) (λb=>Jr i b * sm pl.length λq=>vN (J.getD q []) w * (if b = pl.getD q 0 then 1 else 0)) = sm pl.length λq=>vN (J.getD q []) w * (if i = q then 1 else 0):=by
    rw [Zaf (g:=λb=>sm pl.length λq=>Jr i b * (vN (J.getD q []) w * (if b = pl.getD q 0 then 1 else 0))) λb _=>by rw [Zde],Zer];refine Zaf λq hq=>?_;rw [Zaf (g:=λb=>(Jr i b * vN (J.getD q []) w) * (if b = pl.getD q 0 then 1 else 0)) λb _=>by grind,Zdu _ (by have:=jf.rr.cn q hq; exact Zfw this),lead q hq]
    grind
   rw [e2];by_cases h:i < pl.length
   .rw [Zgg _ h];show (if i < pl.length then vN (J.getD i []) w else _) - _ = if i = k then (1:F) else 0
    rw [if_pos h,if_neg (by omega)]
    grind
   .rw [Zaf (g:=λ_=>(0:F)) λq hq=>by rw [if_neg (oz51 h hq)]; grind,Zdb];show (if i < pl.length then _ else vN (J.getD l0 []) w * (1 / t)) - 0 = if i = k then (1:F) else 0
    rw [if_neg h,ht,if_pos (oz50 hi hk hk2 h)]
    grind
 omega
end
end Pf
namespace Pf
open PySem L2 L3 PyProof.Rows
section
variable {P:Program} {w:World} {K:PySem.W.Frag} {mg:Str->Option Value} {base:Heap} {C PL cL:Addr}
theorem Zt9 {a D:Addr} {xs:List V} {fr:List (Str × Nat)} {σ:L2.St} {wi2:TI} {te:TE} {H1:Hp} {Q:VK} (b:Nat) (T:Nat->Nat->Prop) (ha:H1 a = some (.lst xs)) (hD:H1 D = none) (hn:xs.length<=24) (hb:b<=24)
  (h2:∀ (i:Nat) x (v1:Option V) H (R:It->Hp->Prop),xs[i]? = some x->Same H1 H->(∃ l,H D = some (.lst l))->(∀ (c:Addr) (ys:List V) H',Same H H'->H' c = some (.lst ys)->c ≠ D->ys.length = b->(∀ (j:Nat) y H'' (Q':VK),ys[j]? = some y->Same H1 H''->(∀ bb H3,Same H'' H3->(bb = true ↔ T i j)->Q' (.bl bb) H3)->te (some x :: some y :: Zbp fr σ) H'' Q')->R (Itl K c) H')->wi2 (some x :: v1 :: Zbp fr σ) H R)
  (hQ:∀ (bs:List Bool) H',Same H1 H'->H' D = some (.lst (bs.map V.bl))->(bs.any id = true ↔ ∃ i,i < xs.length/\∃ j,j < b/\T i j)->Q (.ref D) H'):Zmc (Zb4 0) wi2 (Zb4 1) te (Itl K a) D (Zgr 2 fr σ) H1 Q:=by
 refine ⟨λi m σ' H2=>m = xs.length - i/\i<=xs.length/\∃ (v0 v1:Option V) (bs:List Bool),σ' = v0 :: v1 :: Zbp fr σ/\Same H1 H2/\H2 D = some (.lst (bs.map V.bl))/\bs.length<=24 * i/\(bs.any id = true ↔ ∃ i',i' < i/\∃ j,j < b/\T i' j),⟨xs.length,rfl,Jb3 _,none,none,[],rfl,Same.new hD,Zab,by simp,by simp⟩,?_⟩;rintro i m σ' H2 ⟨rfl,hi,v0,v1,bs,rfl,s2,hD2,hbl,hiff⟩;by_cases hlt:i < xs.length
 .refine .inr ⟨⟨xs,xs[i],SqL.of (s2 _ _ ha),Jaa hlt⟩,λx H3 y=>?_⟩;obtain ⟨rfl,hy⟩:=y;have hx:=hy xs (SqL.of (s2 _ _ ha));show wi2 (some x :: v1 :: Zbp fr σ) _ _;refine h2 i x v1 _ _ hx s2 ⟨_,hD2⟩ λc ys H4 s4 hc hcD hyl hte=>?_;refine ⟨λj m2 σ5 H6=>m2 = b - j/\j<=b/\∃ (v1':Option V) (bs':List Bool),σ5 = some x :: v1' :: Zbp fr σ/\Same H1 H6/\H6 c = some (.lst ys)/\H6 D = some (.lst (bs'.map V.bl))/\bs'.length<=24 * i + j/\(bs'.any id = true ↔ (∃ i',i' < i/\∃ j,j < b/\T i' j)\/∃ j',j' < j/\T i j'),⟨b,rfl,Jb3 _,v1,bs,rfl,s2.trans s4,hc,s4 _ _ hD2,hbl,by rw [hiff]; simp⟩,?_⟩;rintro j m2 σ5 H6 ⟨rfl,hj,v1',bs',rfl,s6,hc6,hD6,hbl6,hiff6⟩;by_cases hjt:j < b
  .refine .inr ⟨⟨ys,ys[j]'(Zck hyl hjt),SqL.of hc6,Jaa _⟩,λy H7 yy=>?_⟩;obtain ⟨rfl,hyy⟩:=yy;have hyj:=hyy ys (SqL.of hc6);show te (some x :: some y :: Zbp fr σ) _ _;refine hte j y _ _ hyj s6 λbb H8 s8 hbb=>?_;refine ⟨bs'.map V.bl,s8 _ _ hD6,Zau (by rw [Jab]; omega),b - (j + 1),oz21 hjt,rfl,by omega,some y,bs' ++ [bb],rfl,(s6.trans s8).upd hD,by rw [Zal hcD]; exact s8 _ _ hc6,by rw [Zab,Jbe]; rfl,by rw [Jam]; show bs'.length + 1<=_; omega,?_⟩;rw [List.any_append,Jdh,hiff6];have e1:([bb].any id = true) ↔ T i j:=by rw [<- hbb]; simp
   rw [e1];constructor
   .rintro ((h | ⟨j',h1,h2⟩) | h)
    .exact .inl h
    .exact .inr ⟨j',Zfw h1,h2⟩
    .exact .inr ⟨j,by omega,h⟩
   .rintro (h | ⟨j',h1,h2⟩)
    .exact .inl (.inl h)
    .by_cases e:j' = j
     .subst e; exact .inr h2
     .exact .inl (.inr ⟨j',Zmp h1 e,h2⟩)
  .have e:j = b:=by exact Zs3 hj hjt
   subst e;refine .inl ⟨⟨ys,SqL.of hc6,by omega⟩,xs.length - (i + 1),oz21 hlt,rfl,by omega,_,v1',bs',rfl,s6,hD6,by omega,?_⟩;rw [hiff6];constructor
   .rintro (⟨i',h1,h2⟩ | h)
    .exact ⟨i',Zfw h1,h2⟩
    .exact ⟨i,by omega,h⟩
   .rintro ⟨i',h1,h2⟩;by_cases e:i' = i
    .subst e; exact .inr h2
    .exact .inl ⟨i',Zmp h1 e,h2⟩
 .have e:i = xs.length:=by exact Zs3 hi hlt
  subst e;exact .inl ⟨⟨xs,SqL.of (s2 _ _ ha),Jag _⟩,hQ bs H2 s2 hD2 hiff⟩
def Zpq (C PL:Addr):L2.Sp:=λvs H Q _=>∃ (g t r:Addr) (rs:List Addr) (p:Int) (k n:Nat) (M:Mv),vs = [.ref g,.ref t]/\GAt C H g p/\GroundP p/\TabB H p k n n t r rs M/\n<=24/\7<=k/\(Zgd p k n (Zfx M n)/\Ziz p k n (Zfx M n))/\(n + n + 1) * k<=NB/\H PL = some Zos /\
 ∀ (tS rS:Addr) (rsS:List Addr) (S R:Mv) (pl:List Nat) H',Same H H'->New H tS rS rsS->TabV H' p n n tS rS rsS S->IsRed p k n n M S R pl->(R = Zcq n->Q (.ref tS) H')/\(R ≠ Zcq n->Q .non H')
theorem Zqd {f:Addr} {fd:FuncData} (F:Fun K "back_of" "back_of" Zel f fd) (T:Txt K mg C) (C_reduced:Cal P w K mg base "reduced" 9 (Zh4 C PL)) (C_plain:Cal P w K mg base "plain" 8 (spPl C)):FnOk P w K mg base CX0 10 f fd ["ground","table"] (Zpq C PL):=by
 have nd:=Zjo.nd;refine F.ok Zjo (λvs H Q E h=>?_) (λcdv A outer s H vs Q E hr h=>?_)
 .obtain ⟨g,t,r,rs,p,k,n,M,rfl,_⟩:=h;rfl
 .obtain ⟨g,t,r,rs,p,k,n,M,rfl,hg,hp,tb,n24,k7,nb,kb,hPL,q⟩:=h;have Zfy:∀ {c A B:Prop} [Decidable c],¬ c->B->if c then A else B:=λhc h=>by rw [if_neg hc]; exact h
  refine ⟨_,((Zbm (pv 1) (@Zcd _ _ _ _ _ 3 rfl (@Zag _ _ _ _ _ (@Zae _ _ 2 _ nd rfl (Or.inl rfl) (Or.inl rfl)) (@Zag _ _ _ _ _ (@Zae _ _ 3 _ nd rfl (Or.inl rfl) (Or.inl rfl)) (@Zag _ _ _ _ _ (@Zae _ _ 4 _ nd rfl (Or.inl rfl) (Or.inl rfl)) (@Za3 _) (by rfl)) (by rfl)) (by rfl)) (by rfl) (by rfl)))<*>((@Za4 _ _ _ _ _ _ _ _ (Zai Zgn (pv 2) (pv 3) (Zan _)) (~~~Zf5) Zao)<*>((Zbm (Za5 C_reduced hr.m rfl ((pv 0)<&>((pv 1)<&>Zaa))) (@Zcd _ _ _ _ _ 2 rfl (@Zag _ _ _ _ _ (@Zae _ _ 5 _ nd rfl (Or.inl rfl) (Or.inl rfl)) (@Zag _ _ _ _ _ (@Zae _ _ 6 _ nd rfl (Or.inl rfl) (Or.inl rfl)) (@Za3 _) (by rfl)) (by rfl)) (by rfl) (by rfl)))<*>(~~~(Zsz (Zai (Zuw (Zfa hr)) (pv 6) (Za5 C_plain hr.m rfl ((pv 0)<&>((pv 2)<&>Zaa))) (Zan _)) (pv 5) Zf5))))),?_⟩;walk_at "wp";refine ⟨_,SqT.of tb.tv.tup,rfl,_,_,rfl,_,_,rfl,_,_,rfl,rfl,rfl,Zfy (by simp) ?_⟩;refine ⟨g,t,r,rs,p,k,n,n,M,rfl,hg,hp,tb,n24,n24,k7,nb,kb,hPL,λt' tS rS tR rR rsS rsR S R pl H1 s1 ht' nwS nwR tbS tbR nn1 nn2 nn3 ir=>?_⟩;refine ⟨t',rfl,_,SqT.of ht',rfl,_,_,rfl,_,_,rfl,rfl,?_⟩;refine ⟨g,p,n,rfl,hg.same s1,hp,Ze3,Zma n24,λtU rU rsU H2 s2 nwU tbU=>?_⟩;rw [Jau] at tbU;obtain ⟨g1,g2,g3,g4⟩:=ir.good hp k7 tb.hl tb.hw;have mR:Mat p n n R:=⟨g2,λxs hx=>(g4 xs hx).1,λxs hx x hxx=>((g4 xs hx).2 x hxx).1⟩
  obtain ⟨bs,hb,eb⟩:=tab_eqB (K:=K) mR (Zhp hp n) (tbR.same s2) tbU;obtain ⟨q1,q2⟩:=q tS rS rsS S R pl H2 (s1.trans s2) nwS (tbS.same s2) ir;exact ⟨tR,rfl,tU,rfl,_,SqT.of (tbR.same s2).tup,_,SqT.of tbU.tup,bs,hb,Zdz (λhc=>q1 (eb.mp hc)) (λhc=>q2 (λz=>hc (eb.mpr z)))⟩
def Zoh (C PL:Addr):L2.Sp:=λvs H Q _=>∃ (g t r t2 r2:Addr) (rs rs2:List Addr) (p:Int) (k n w b:Nat) (M B:Mv),vs = [.ref g,.ref t,.ref t2]/\GAt C H g p/\GroundP p/\TabB H p k n w t r rs M/\TabB H p k n b t2 r2 rs2 B/\n<=24/\w<=24/\b<=24/\7<=k/\Zdh p k (w + b) w<=HB/\(w + b + 1) * k<=NB/\H PL = some Zos /\
 ∀ (J:Mv) (pl:List Nat) H1,Same H H1->Red p k w (jnM M B n) J pl->(¬ Zi0 J pl n w b->Q .non H1)/\(Zi0 J pl n w b->∀ (t' r':Addr) (rs':List Addr) (X:Mv) H',Same H H'->New H t' r' rs'->TabV H' p w b t' r' rs' X->LedV J pl w b X->Q (.ref t') H')
theorem Zqe {f:Addr} {fd:FuncData} (F:Fun K "all_led_to" "all_led_to" Zcn f fd) (T:Txt K mg C) (C_side_by_side:Cal P w K mg base "side_by_side" 1 (Znf C)) (C_reduced_rows:Cal P w K mg base "reduced_rows" 8 (Zsk C PL)) (C_Ground_number:CalD P w K mg base C "number" 6 (Zg2 C) [.int 1]) (C_noughts:Cal P w K mg base "noughts" 7 (Zsm C)):FnOk P w K mg base CX0 9 f fd ["ground","table","columns"] (Zoh C PL):=by
 have nd:=Zgj.nd;refine F.ok Zgj (λvs H Q E h=>?_) (λcdv A outer s H vs Q E hr h=>?_)
 .obtain ⟨g,t,r,t2,r2,rs,rs2,p,k,n,w,b,M,B,rfl,_⟩:=h;rfl
 .obtain ⟨g,t,r,t2,r2,rs,rs2,p,k,n,w,b,M,B,rfl,hg,hp,tb,tc,n24,w24,b24,k7,nb,kb,hPL,q⟩:=h;refine ⟨_,((Zbm (pv 1) (@Zcd _ _ _ _ _ 3 rfl (@Zag _ _ _ _ _ (@Zae _ _ 3 _ nd rfl (Or.inl rfl) (Or.inl rfl)) (@Zag _ _ _ _ _ (@Zae _ _ 4 _ nd rfl (Or.inr rfl) (Or.inl rfl)) (@Zag _ _ _ _ _ (@Zae _ _ 5 _ nd rfl (Or.inl rfl) (Or.inl rfl)) (@Za3 _) (by rfl)) (by rfl)) (by rfl)) (by rfl) (by rfl)))<*>((Zar (i:=6) nd rfl (Or.inl rfl) (Za5 C_side_by_side hr.m rfl ((pv 0)<&>((pv 3)<&>((@Zce _ _ _ _ ((pv 1)<&>((pv 2)<&>Zaa)))<&>Zaa)))))<*>((Zbm (Za5 C_reduced_rows hr.m rfl ((pv 0)<&>((Zaq<|>(pv 6)<||>Zac)<&>((pv 4)<&>Zaa)))) (@Zcd _ _ _ _ _ 2 rfl (@Zag _ _ _ _ _ (@Zae _ _ 7 _ nd rfl (Or.inl rfl) (Or.inl rfl)) (@Zag _ _ _ _ _ (@Zae _ _ 8 _ nd rfl (Or.inl rfl) (Or.inl rfl)) (@Za3 _) (by rfl)) (by rfl)) (by rfl) (by rfl)))<*>((Zar (i:=9) nd rfl (Or.inr rfl) (Zio T.cl_Ground C_Ground_number hr.m (pv 0) (Zac<&>Zaa)))<*>((@Za4 _ _ _ _ _ _ _ _ (Zd2 (Zcj (Zub rfl) rfl T.n_any boot_any ((Zs0 (own:=["row","number"]) (fr:=[("nought",9),("wide",4)]) rfl (Zb0 (by kernel_rfl)) (Zbd (@Zd4 _ _ _ _ _ _ _ _ _ _ Zh5 (pv 7) (@Zd9 _ _ _ (Zcj Zb5 rfl T.n_len Jdq ((pv 8)<&>Zaa))) Zga)) (λ_ _ _ _=>⟨(@Zae _ _ 0 _ (show (["row","number","nought","wide"]:List Str).Nodup by decide +kernel) rfl (Or.inl rfl) (Or.inr rfl)),(Zhs K rfl (@Zd4 _ _ _ _ _ _ _ _ _ _ (Zj3 K rfl) (pv 0) (@Zd9 _ _ _ (pv 3)) Zga)),(@Zae _ _ 1 _ (show (["row","number","nought","wide"]:List Str).Nodup by decide +kernel) rfl (Or.inl rfl) (Or.inr rfl)),(Zcs (Zms K rfl (Zfa hr)) (pv 1) (pv 2) (Zan _))⟩))<&>Zaa))) (~~~Zf5) Zao)<*>((Zar (i:=10) nd rfl (Or.inl rfl) (Za5 C_noughts hr.m rfl ((pv 0)<&>((pv 4)<&>((Zaq<|>(pv 2)<||>Zac)<&>Zaa)))))<*>((Zco Ja8 rfl (Zhe rfl T.n_zip ((pv 7)<&>((pv 8)<&>Zaa))) (@Zcd _ _ _ _ _ 2 rfl (@Zag _ _ _ _ _ (@Zae _ _ 11 _ nd rfl (Or.inl rfl) (Or.inl rfl)) (@Zag _ _ _ _ _ (@Zae _ _ 12 _ nd rfl (Or.inl rfl) (Or.inl rfl)) (@Za3 _) (by rfl)) (by rfl)) (by rfl) (by rfl)) (@Zas _ _ _ (Zbm (@Zd4 _ _ _ _ _ _ _ _ _ _ Zh5 (pv 11) (@Zd9 _ _ _ (pv 4)) Zga) (Zf4 (Zaq<|>(pv 10)<||>Zac) (pv 12) Zc6))))<*>(~~~(pv 10))))))))),?_⟩;refine Zfv λX hX=>?_;walk_at "wp";refine ⟨_,SqT.of tb.tv.tup,rfl,_,_,rfl,_,_,rfl,_,_,rfl,rfl,?_⟩;subst hX;refine Zfv λX hX=>?_;walk_at "wp";refine ⟨by decide,λLT hLT=>?_⟩;have s1:=Same.new (o:=.lst [V.ref t,V.ref t2]) hLT;have tb1:=tb.same s1;have tc1:=tc.same s1;refine ⟨g,LT,p,n,[t,t2],[((n:Int),(w:Int),M),((n:Int),(b:Int),B)],rfl,Ze3,Zma n24,⟨Zab,(All2.one ⟨r,rs,tb1.tv⟩).app (All2.one ⟨r2,rs2,tc1.tv⟩)⟩,⟨by show 2<=9; decide,λi hi=>?_⟩,λi hi=>?_,λ_ tJ rJ rsJ H2 s2 nwJ tbJ=>?_⟩
  .match i,hi with
   | 0,_=>exact ⟨by show (0:Int)<=n; exact Ze3,by show (n:Int)<=24; exact Zma n24,by show (0:Int)<=w; exact Ze3,by show (w:Int)<=24; exact Zma w24,by show (M.length:Int) = n; rw [tb.hl],λrow hr=>by show (row.length:Int) = w; rw [tb.hw row hr]⟩
   | 1,_=>exact ⟨by show (0:Int)<=n; exact Ze3,by show (n:Int)<=24; exact Zma n24,by show (0:Int)<=b; exact Ze3,by show (b:Int)<=24; exact Zma b24,by show (B.length:Int) = n; rw [tc.hl],λrow hr=>by show (row.length:Int) = b; rw [tc.hw row hr]⟩
  .match i,hi with
   | 0,_=>rfl
   | 1,_=>rfl
  have eJ:Zk2 [((n:Int),(w:Int),M),((n:Int),(b:Int),B)] ((n:Int)).toNat [((n:Int),(w:Int),M),((n:Int),(b:Int),B)].length = jnM M B n:=by
   rw [Jau];rfl
  rw [eJ] at tbJ;have jw:=Zq1 tb.hl tb.hw tc.hl tc.hw;have jg:=Zq2 tb.hl tb.gd tc.hl tc.gd;have s02:=s1.trans s2;obtain ⟨sw1,sw2⟩:=Zsi hp k7 jw nb;subst hX;refine Zfv λX hX=>?_;walk_at "wp";refine ⟨_,SqT.of tbJ.tup,_,rfl,g,rJ,p,rsJ,jnM M B n,k,w + b,w,rfl,hg.same s02,hp,⟨tbJ.lst,tbJ.row,jw,jg,by simp; omega,by omega,by omega,kb⟩,Zs5,s02 _ _ hPL,sw1,sw2,λtt FF pA rsF J pl H3 s3 ht3 hFF hpA nFp ep eF rvF nrF rd=>?_⟩;obtain ⟨g1,g2,g3⟩:=rd.good hp k7 jw;rw [Jab,Jao] at g1;have rl3:=rvF.1;have s03:=s02.trans s3;obtain ⟨F0,_,hF0⟩:=Zew hp;have jf:=Zq3 hp k7 hF0 rd tb.hl tb.hw tb.gd tc.hl tc.hw tc.gd;have rlp:=jf.rr.rl;rw [Jab,jf.len] at rlp;refine ⟨tt,rfl,_,SqT.of ht3,rfl,_,_,rfl,_,_,rfl,rfl,?_⟩;obtain ⟨dg,hg0⟩:=hg.same s03;subst hX;refine Zfv λX hX=>?_;walk_at "wp";refine ⟨dg,_,hg0,Zc8 p,g,p,0,1,rfl,⟨dg,hg0⟩,hp,Zaz (by decide) (by decide),Zaz (by decide) (by decide),λ_=>by decide,Zmt hp,λnv nx H4 s4 hnv iq=>?_⟩;rw [Zm3 hp iq,Zen] at hnv;have s04:=s03.trans s4;have eF4:=s4 _ _ eF;have ep4:=s4 _ _ ep;have ecut:Zlz (rsF.map V.ref) (some (((pl.map λ(j:Nat)=>V.int j).length:Nat):Int)) none = (rsF.drop pl.length).map V.ref:=by
   rw [Zkh _ _ Ze3 (by rw [Jab,Jab]; omega),Jau,Jab,Jfl]
  subst hX;refine Zfv λX hX=>?_;walk_at "wp";refine ⟨_,rfl,_,rfl,pA,rfl,_,.inl (SqL.of ep4),_,rfl,FF,_,rfl,SqL.of eF4,λSL hSL=>?_⟩;rw [ecut];have s5:=Same.new (o:=.lst ((rsF.drop pl.length).map V.ref)) hSL;refine ⟨SL,rfl,⟨_,SqL.of Zab⟩,λD hD=>Zt9 b (λi j=>((J.getD (pl.length + i) []).drop w).getD j (0,1) ≠ (0,1)) Zab hD (by rw [Jab,Jbm]; exact oz156 n24 g1 rl3) b24 (λi x v1 H6 R6 hx s6 ⟨lD,hlD⟩ k6=>?_) λbs H6 s6 e6 hany=>?_⟩
  .rw [Jad] at hx;have hil:i < (rsF.drop pl.length).length:=by
    apply Ja3;intro z;rw [Jaj (Zhf z)] at hx;cases hx
   rw [Jbm] at hil;have ea:rsF[pl.length + i]? = some (rsF[pl.length + i]'(oz54 hil)):=Jaa _;rw [Jcw,ea] at hx;cases hx;obtain ⟨row,er,vs,hv1,hv2⟩:=rvF.at' ea;have wr:=g2 row (Jae er);have eJr:J.getD (pl.length + i) [] = row:=Zah er;have vl:=hv2.1;have sA:=(s4.trans s5).trans s6;refine ⟨_,rfl,_,rfl,_,rfl,_,vs,rfl,SqL.of (sA _ _ hv1),λc hc=>?_⟩;rw [Zkh _ _ Ze3 (by omega),Jau];refine ⟨c,rfl,⟨_,SqL.of Zab⟩,k6 c (vs.drop w) _ (Same.new hc) Zab (Zaj hlD hc).symm (by rw [Jbm]; omega) λj y H7 Q7 hy s7 k7'=>?_⟩;have hyj:j < (vs.drop w).length:=(Jah.mp hy).1;rw [Jbm] at hyj;rw [Jcw] at hy;have ex:row[w + j]? = some (row[w + j]'(by omega)):=Jaa _;have ny:=(hv2.2 _ _ _ hy ex).same ((s4.trans s5).trans s7);have isx:=(g3 row (Jae er) _ (Jae ex)).1;refine ⟨_,rfl,_,rfl,Zmv ny (hnv.same (s5.trans s7)) isx (Zlp hp).1 (k7' _ H7 (Same.refl _) ?_)⟩;rw [Jcx,eJr];have e2:(row.drop w).getD j (0,1) = row[w + j]'(by omega):=by rw [Jac,Jcw,ex]; rfl
   rw [e2]
  .have s46:=s5.trans s6;have s06:=s04.trans s46;obtain ⟨q1,q2⟩:=q J pl H6 s06 rd;rw [Jab,Jbm] at hany;have hnt:bs.any id = true ↔ ¬ Zi0 J pl n w b:=by
    rw [hany];constructor
    .rintro ⟨i,hi,j,hj,hne⟩ nt;exact hne (nt (pl.length + i) j Zs5 (oz141 g1 rl3 hi) hj)
    .intro nt;apply Ja3;intro z;apply nt;intro l j h1 h2 h3;apply Ja3;intro y;exact z ⟨l - pl.length,oz110 g1 rl3 h1 h2,j,h3,by rw [show pl.length + (l - pl.length) = l by exact oz40 h1]; exact y⟩
   refine ⟨D,rfl,_,SqL.of e6,Zdz (λhc=>q1 (hnt.mp hc)) (λhc=>?_)⟩;have nt:Zi0 J pl n w b:=Ja3 λz=>hc (hnt.mpr z);have q2:=q2 nt;have s36:=s4.trans s46;subst hX;refine Zfv λX hX=>?_;walk_at "wp";refine ⟨_,SqT.of (tc.same s06).tv.tup,_,rfl,g,p,w,b,rfl,⟨dg,(s4.trans s46) _ _ hg0⟩,hp,Ze3,Zma w24,Ze3,Zma b24,λtz rz rsz H7 s7 nwz ndz tbz=>?_⟩;rw [Jau,Jau] at tbz;have ndp:pl.Nodup:=Zlf jf.rr.mono;have lt:∀ i,i < pl.length->pl.getD i 0 < w:=jf.rr.cn;have zat:∀ c,c < w->(zM w b).getD c [] = zR b:=λc hc=>Zah (by rw [Jad,Jav hc]; rfl);have eF7:=(s36.trans s7) _ _ eF;have ep7:=(s36.trans s7) _ _ ep;subst hX;refine Zfv λX hX=>?_;refine ⟨_,rfl,_,rfl,FF,pA,rfl,⟨_,SqL.of eF7⟩,⟨_,SqL.of ep7⟩,Zt0 (xs:=rsF.map V.ref) (ys:=pl.map λ(j:Nat)=>V.int j) (λi σ H8=>∃ (v11 v12:Option V) (rs8:List Addr) (N8:Mv),σ = [some (V.ref g),some (V.ref t),some (V.ref t2),some (V.int n),some (V.int w),some (V.ref r),some (V.ref tJ),some (V.ref FF),some (V.ref pA),some nv,some (V.ref tz),v11,v12]/\Same H6 H8/\H8 tz = some (.tup [V.int w,V.int b,V.ref rz])/\NulH H6 H8 p rz rs8 N8/\N8.length = w/\(∀ k,k < i->N8.getD (pl.getD k 0) [] = (J.getD k []).drop w)/\∀ c,c < w->c ∉ pl->N8.getD c [] = zR b)
    (by rw [Jab,Jab]; omega) ⟨none,none,rsz,_,rfl,s7,tbz.tup,⟨tbz.lst,tbz.row,ndz,tbz.nin,nwz.rs⟩,by rw [Jab,Jao],λk hk=>by omega,λc hc _=>zat c hc⟩ (λi σ H8 _ ⟨_,_,_,_,_,s8,_⟩=>⟨SqL.of ((s36.trans s8) _ _ eF),SqL.of ((s36.trans s8) _ _ ep)⟩) ?_ ?_⟩
   .rintro i x y pp σ H8 hx hy hpp ⟨v11,v12,rs8,N8,rfl,s8,ht8,nh,nl,inv1,inv2⟩;obtain ⟨hi,rfl⟩:=pl_at hy;obtain ⟨row,er,a,rfl,rv⟩:=(Zay rvF).at' hx;have spp:=Same.new (o:=.tup [V.ref a,V.int ((pl.getD i 0:Nat):Int)]) hpp;have hpt:upd H8 pp (.tup [V.ref a,V.int ((pl.getD i 0:Nat):Int)]) pp = some (.tup [V.ref a,V.int ((pl.getD i 0:Nat):Int)]):=Zab;have nh9:NulH H6 (upd H8 pp (.tup [V.ref a,V.int ((pl.getD i 0:Nat):Int)])) p rz rs8 N8:=⟨spp _ _ nh.lst,nh.row.mono λ_ _ k=>k.same spp,nh.nds,nh.nin,nh.new⟩
    have s69:=s8.trans spp;have ht9:=spp _ _ ht8;generalize upd H8 pp (.tup [V.ref a,V.int ((pl.getD i 0:Nat):Int)]) = H9 at *;have eJr:J.getD i [] = row:=Zah er;have wr:=g2 row (Jae er);obtain ⟨vs,hv1,hv2⟩:=rv;have vl:=hv2.1;have s39:=s36.trans s69;have hcw:=lt i hi;have lrs:=nh9.row.1;refine Zt6 λD1 hD1=>?_;walk_at "wp";refine ⟨_,SqT.of hpt,rfl,_,_,rfl,_,_,rfl,rfl,?_⟩;refine ⟨a,rfl,vs,SqL.of (s39 _ _ hv1),λE1 hE1=>?_⟩;rw [Zkh _ _ Ze3 (by omega),Jau];have sE:=Same.new (o:=.lst (vs.drop w)) hE1;have l9:=sE _ _ nh9.lst;have nE:E1 ≠ rz:=λz=>by rw [z,nh9.lst] at hE1; cases hE1
    have nEr:E1 ∉ rs8:=λz=>by
     obtain ⟨j,hj,ej⟩:=Jas.mp z;obtain ⟨_,_,us,hu,_⟩:=nh9.row.at' (Jaa hj);rw [ej,hE1] at hu;cases hu
    have ntz:tz ≠ rz:=λz=>by rw [z,nh9.lst] at ht9; cases ht9
    have base:All2 (RowV (upd (upd H9 E1 (.lst (vs.drop w))) rz (.lst ((rs8.map V.ref).set (pl.getD i 0) (.ref E1)))) p) rs8 N8:=nh9.row.monoM λb x hb k=>(k.same sE).put l9 (λz=>nh9.nin (z ▸ hb));refine ⟨_,SqT.of (sE _ _ ht9),_,rfl,rz,rfl,_,_,rfl,l9,pl.getD i 0,?_,?_⟩
    .rw [Zu1 Ze3 (by rw [Jau,Jab]; omega),Jau]
    subst hD1;refine ⟨_,_,rs8.set (pl.getD i 0) E1,N8.set (pl.getD i 0) (row.drop w),rfl,(s69.trans sE).upd nwz.r,by rw [Zal ntz]; exact sE _ _ ht9,⟨?_,?_,Zqk nh9.nds nEr,λz=>?_,λb hb=>?_⟩,by rw [Jay]; exact nl,λk hk=>?_,λc hc hcp=>?_⟩
    .rw [Zab,List.map_set]
    .refine base.set _ ⟨vs.drop w,by rw [Zal nE,Zab],?_⟩;exact (hv2.drop w).mono λ_ _ k=>((k.same s39).same sE).put l9
    .rcases Jar z with h | h
     .exact nh9.nin h
     .exact nE h.symm
    .rcases Jar hb with h | h
     .exact nh9.new b h
     .rw [h]; exact s69.free hE1
    .rw [Zcw (Zck nl hcw)];by_cases e:pl.getD k 0 = pl.getD i 0
     .have:k = i:=Zle ndp (by omega) hi e;subst this;rw [if_pos rfl,eJr]
     .rw [if_neg e];refine inv1 k ?_;apply Ja3;intro z;exact e (by rw [show k = i by exact oz12 hk z])
    .rw [Zcw (Zck nl hcw),if_neg λz=>hcp (by rw [z]; exact Zap hi)];exact inv2 c hc hcp
   .rintro σ H8 ⟨v11,v12,rs8,N8,rfl,s8,ht8,nh,nl,inv1,inv2⟩;rw [Jab] at inv1;subst hX;walk_at "wp";have s08:=s06.trans s8;exact q2 tz rz rs8 N8 H8 s08 ⟨s06.free nwz.t,s06.free nwz.r,λb hb=>s06.free (nh.new b hb)⟩ ⟨ht8,nh.lst,nh.row,nh.nin⟩ ⟨nl,inv1,inv2⟩
theorem ok_led {f:Addr} {fd:FuncData} (F:Fun K "led_to" "led_to" Zfq f fd) (T:Txt K mg C) (C_all_led_to:Cal P w K mg base "all_led_to" 9 (Zoh C PL)):FnOk P w K mg base CX0 10 f fd ["ground","table","column"] (Zoh C PL):=by
 have nd:=Zk4.nd;refine F.ok Zk4 (λvs H Q E h=>?_) (λcdv A outer s H vs Q E hr h=>?_)
 .obtain ⟨g,t,r,t2,r2,rs,rs2,p,k,n,w,b,M,B,rfl,_⟩:=h;rfl
 .have h0:=h;obtain ⟨g,t,r,t2,r2,rs,rs2,p,k,n,w,b,M,B,rfl,_⟩:=h0;refine ⟨_,(~~~(Za5 C_all_led_to hr.m rfl ((pv 0)<&>((pv 1)<&>((pv 2)<&>Zaa))))),?_⟩;walk_at "wp";exact h
def Zpj:L2.Sp:=λvs H Q _=>∃ (l:Addr) (p:Int),vs = [.ref l,.int p]/\Bag H l/\GroundP p/\∀ (m:Int) (H':Hp),Ext l H H'->Bag H' l->4<=m->m<=24->(p = 0->m<=4)->Q (.int m) H'
theorem ok_most {f:Addr} {fd:FuncData} (F:Fun K "_law_most" "_law_most" Zdl f fd) (T:Txt K mg C) (C_law_draw:Cal P w K mg base "_law_draw" 1 Zgf):FnOk P w K mg base CX0 2 f fd ["_law_bag_here","_law_p"] Zpj:=by
 have nd:=Zh9.nd;refine F.ok Zh9 (λvs H Q E h=>?_) (λcdv A outer s H vs Q E hr h=>?_)
 .obtain ⟨l,p,rfl,_⟩:=h;rfl
 .obtain ⟨l,p,rfl,hb,hp,q⟩:=h;refine ⟨_,((@Za4 _ _ _ _ _ _ _ _ (PW.pt (Zk5 (Zai Ze4 (pv 1) Zac (Zan _)) (Zil (Zai Zem (Za5 C_law_draw hr.m rfl ((pv 0)<&>(Zac<&>Zaa))) Zac (Zan _))))) (~~~Zac) Zao)<*>(~~~(Zat<|>(@Zce _ _ _ _ (Zac<&>(Zac<&>Zaa)))<||>(Zp2 Ziv rfl T.n_int boot_int ((Zcs Ze4 (pv 1) Zac (Zan _))<&>Zaa))))),?_⟩;walk_at "wp";have fin:∀ H1,Ext l H H1->Bag H1 l->(2<=sizeLine/\∀ (p_1:Addr),H1 p_1 = none->∃ x,SqL K (upd H1 p_1 (HO.lst [V.int 4,V.int 6])) p_1 x/\∃ x_1,atI x (if decide (0 < p) = true then 1 else 0) = some x_1/\Q x_1 (upd H1 p_1 (HO.lst [V.int 4,V.int 6]))):=by
   intro H1 e1 b1;refine ⟨by decide,λt ht=>⟨_,SqL.of Zab,?_⟩⟩;have nt:=b1.ne ht;by_cases hc:decide (0 < p) = true
   .rw [if_pos hc];exact ⟨_,rfl,q 6 _ (e1.trans (Ext.new ht)) (b1.new nt) (by decide) (by decide) (λz=>by rw [z] at hc; exact absurd hc (by decide))⟩
   .rw [if_neg hc];exact ⟨_,rfl,q 4 _ (e1.trans (Ext.new ht)) (b1.new nt) (by decide) (by decide) (λ_=>by decide)⟩
  refine Zdz (λhc=>?_) (λ_=>fin H (Ext.refl _ _) hb);refine hb.draw (by decide) (by decide) λz H2 z0 z1 e2 b2=>⟨rfl,Zdz (λ_=>q 24 _ e2 b2 (by decide) (by decide) (λz=>by rw [z] at hc; exact absurd hc (by decide))) (λ_=>fin H2 e2 b2)⟩
def spLpl:L2.Sp:=λvs H Q _=>∃ p n:Int,vs = [.int p,.int n]/\GroundP p/\0<=n/\n<=24/\∀ t r rs H',Same H H'->TabV H' p n n t r rs (Zcq n.toNat)->Q (.ref t) H'
theorem ok_lpl {f:Addr} {fd:FuncData} (F:Fun K "_law_plain" "_law_plain" Zc4 f fd) (T:Txt K mg C) (C_law_int:Cal P w K mg base "_law_int" 1 Zoi):FnOk P w K mg base CX0 2 f fd ["_law_p","_law_many"] spLpl:=by
 have nd:=Zha.nd;refine F.ok Zha (λvs H Q E h=>?_) (λcdv A outer s H vs Q E hr h=>?_)
 .obtain ⟨p,n,rfl,_⟩:=h;rfl
 .obtain ⟨p,n,rfl,hp,n0,n24,q⟩:=h;refine ⟨_,(~~~(@Za9 _ _ _ _ _ ((pv 1)<&>((pv 1)<&>((Za6 (own:=["_law_i"]) (fr:=[("_law_many",1),("_law_p",0)]) rfl (Zb0 (by kernel_rfl)) (Zgb rfl T.n_range ((pv 1)<&>Zaa)) (λ_ _ _ _=>⟨(@Zae _ _ 0 _ (show (["_law_i","_law_many","_law_p"]:List Str).Nodup by decide +kernel) rfl (Or.inr rfl) (Or.inl rfl)),Za1,(Za6 (own:=["_law_j"]) (fr:=[("_law_p",2),("_law_i",0)]) rfl (Zb0 (by kernel_rfl)) (Zgb rfl T.n_range ((pv 1)<&>Zaa)) (λ_ _ _ _=>⟨(@Zae _ _ 0 _ (show (["_law_j","_law_p","_law_i"]:List Str).Nodup by decide +kernel) rfl (Or.inl rfl) (Or.inr rfl)),Za1,(Za5 C_law_int hr.m rfl ((pv 1)<&>((Zp2 Ziv rfl T.n_int boot_int ((Zcs Zem (pv 2) (pv 0) (Zan _))<&>Zaa))<&>Zaa)))⟩))⟩))<&>Zaa))))),?_⟩;walk_at "wp";refine ⟨_,rfl,n,rfl,by omega,by omega,λD hD=>Zql (p:=p) (λi=>eR n.toNat i) hD (by omega) (λi H' Q' hi s' q'=>?_) λrs H3 s3 hD3 al3 nD nds fr=>?_⟩
  .refine ⟨_,rfl,n,rfl,by omega,by omega,λE1 hE1=>Zl0 (λj Hc y=>NumV Hc p y (if i = j then (1,1) else (0,1))) (λk s=>k.same s) (λk hD=>k.put hD) hE1 (by omega) (λj Hc Qc hj sc _ qc=>?_) λys Hc sc ec yl yn=>?_⟩
   .refine ⟨_,rfl,_,rfl,_,rfl,rfl,.inr ⟨_,rfl,p,_,rfl,hp,λv Hd sd nv=>qc v Hd sd ?_⟩⟩;by_cases h:i = j
    .subst h;rw [if_pos rfl];rw [Jbc rfl,if_pos rfl] at nv;have e:Zgc p 1 = (1,1):=Zkb hp;rwa [e] at nv
    .rw [if_neg h];rw [Jb4 (λz=>h (by have:=V.int.inj z; omega)),if_neg (by decide)] at nv;rwa [Zen] at nv
   .refine q' E1 Hc hE1 sc ⟨ys,ec,by rw [Jay,Ja9]; omega,λk y x f1 f2=>?_⟩;have nk:=yn k y f1;have hk:k < n.toNat:=by have:=(Jah.mp f1).1; omega
    rw [Jcu,Jbw,if_pos hk] at f2;by_cases h:i = k
    .subst h;rw [if_pos rfl] at nk f2;rw [if_pos (by rw [Ja9]; exact hk)] at f2;cases f2;exact nk
    .rw [if_neg h] at nk f2;cases f2;exact nk
  .refine ⟨by decide,λt ht=>?_⟩;have s5:=Same.new (o:=.tup [V.int n,V.int n,V.ref D]) ht;exact q t D rs _ (s3.trans s5) ⟨Zab,s5 _ _ hD3,al3.mono λ_ _ q=>q.same s5,nD⟩
end
end Pf
namespace Pf
open PySem L2 L3 PyProof.Rows
theorem Zry {p:Int} {pl:List Nat} {R0:List (List Int)} (h:0 < pl.length):Za7 p pl R0 pl.length = Za7 p pl R0 (pl.length - 1):=by
 have e:pl.length = (pl.length - 1) + 1:=by omega
 have key:Za7 p pl R0 ((pl.length - 1) + 1) = Za7 p pl R0 (pl.length - 1):=by
  show ((Za7 p pl R0 (pl.length - 1)).take (pl.length - 1 - (pl.length - 1))).map _ ++ (Za7 p pl R0 (pl.length - 1)).drop (pl.length - 1 - (pl.length - 1)) = _;rw [Nat.sub_self];rfl
 rw [<- e] at key;exact key
noncomputable def Zff (p:Int) (k W n:Nat):Nat:=if p = 0 then ((W + 1) * k + 1) * 2 ^ (2 * (n - 1)) else 7
theorem Zoa {p:Int} {k W wide n:Nat} {M:Mv} {Z done left:List (List Int)} {pl:List Nat} (hp:GroundP p) (h7:7<=k) (hl:M.length = n) (wd:∀ xs ∈ M,xs.length = W) (IR:Zex p k Z M) (sw:Sw p Z wide done left pl) (h0:p = 0) {t:Nat} (ht:t<=pl.length):∀ row ∈ Za7 p pl (done ++ left) t,SmallR (((W + 1) * k + 1) * 2 ^ (2 * (n - 1)) - 1) row:=by
 have p0:=hp.lo;have p97:=hp.hi;have n7:7<=(W + 1) * k:=by rw [Jb6]; exact oz94 h7
 have zl:Z.length = M.length:=IR.1;obtain ⟨a,b,c⟩:=Zpa p0 p97 n7 (Zcu hp h7 IR wd) sw;have I:=sw.inv p0 (Zbo p0 IR wd);have h1:=I.all;have h2:=I.len;have all:∀ row ∈ done ++ left,SmallR (((W + 1) * k + 1) * 2 ^ (n - 1) - 1) row:=λrow hr=>by
  rcases Jal.mp hr with h | h
  .exact (c row h).le (by rw [zl,hl]; exact Jag _)
  .have h1:0 < left.length:=List.length_pos_of_mem h;refine (b row h).le ?_;have:((W + 1) * k + 1) * 2 ^ pl.length<=((W + 1) * k + 1) * 2 ^ (n - 1):=Jaz (Jag _) (Jbh (by decide) (oz35 hl zl a h1));exact oz45 this
 have pos:0 < ((W + 1) * k + 1) * 2 ^ (n - 1):=Jey (by omega) (Jbj _);have b7:7<=((W + 1) * k + 1) * 2 ^ (n - 1) - 1:=by
  have:((W + 1) * k + 1) * 1<=((W + 1) * k + 1) * 2 ^ (n - 1):=Jaz (Jag _) (Jbj _);exact oz93 n7 this
 have main:∀ t,t<=n - 1->∀ row ∈ Za7 p pl (done ++ left) t,SmallR (((W + 1) * k + 1) * 2 ^ (2 * (n - 1)) - 1) row:=λt ht row hr=>by
  refine (Zhy (pl:=pl) p0 p97 b7 all t row hr).le ?_;rw [show ((W + 1) * k + 1) * 2 ^ (n - 1) - 1 + 1 = ((W + 1) * k + 1) * 2 ^ (n - 1) by exact oz34 pos,Zin];have:((W + 1) * k + 1) * 2 ^ (n - 1 + t)<=((W + 1) * k + 1) * 2 ^ (2 * (n - 1)):=Jaz (Jag _) (Jbh (by decide) (by omega));exact oz45 this
 by_cases e:t<=n - 1
 .exact main t e
 .have et:t = pl.length:=by exact oz46 hl ht zl a e
  rw [et,Zry (oz91 e et)];exact main _ (oz17 hl zl a)
theorem Zkt {p:Int} {k W wide n:Nat} {M:Mv} (hp:GroundP p) (h7:7<=k) (hl:M.length = n) (wd:∀ xs ∈ M,xs.length = W) (hb:Zff p k W n<=HB):Zgd p k wide M/\Ziz p k wide M:=by
 have p0:=hp.lo;have p97:=hp.hi;refine ⟨sw_few hp h7 hl wd λh0=>?_,λZ done left pl IR sw t ht row hr=>?_⟩
 .unfold Zff at hb;rw [if_pos h0] at hb;exact Jat (Jaz (Jag _) (Jbh (by decide) (by omega))) hb
 .by_cases h0:p = 0
  .unfold Zff at hb;rw [if_pos h0] at hb;exact (Zoa hp h7 hl wd IR sw h0 ht row hr).le (oz122 hb)
  .obtain ⟨F,_,hF⟩:=Zew hp;have I:=sw.inv p0 (Zbo p0 IR wd);exact (Zfl h0 p97 ((Sw.back p0 I hF t ht).rw row hr)).le (by decide)
theorem Red.goodr {p:Int} {k W wide n:Nat} {M M':Mv} {pl:List Nat} (hp:GroundP p) (h7:7<=k) (R:Red p k wide M M' pl) (hl:M.length = n) (wd:∀ xs ∈ M,xs.length = W):∀ xs ∈ M',Zbc p (Zff p k W n) xs:=by
 obtain ⟨Z,done,left,IR,sw,ml,al⟩:=R.ex;have p0:=hp.lo;have p97:=hp.hi;obtain ⟨F,_,hF⟩:=Zew hp;have I:=sw.inv p0 (Zbo p0 IR wd);have B:=Sw.back p0 I hF pl.length (Jag _);have bl:=B.len;have n7:7<=Zff p k W n:=by
  unfold Zff;split
  .have:((W + 1) * k + 1) * 1<=((W + 1) * k + 1) * 2 ^ (2 * (n - 1)):=Jaz (Jag _) (Jbj _);have:7<=(W + 1) * k:=by rw [Jb6]; exact oz94 h7
   omega
  .exact Jag _
 have sm:∀ row ∈ Za7 p pl (done ++ left) pl.length,SmallR (Zff p k W n) row:=λrow hr=>by
  by_cases h0:p = 0
  .refine (Zoa hp h7 hl wd IR sw h0 (Jag _) row hr).le ?_;unfold Zff;rw [if_pos h0];omega
  .exact (Zfl h0 p97 (B.rw row hr)).le n7
 intro xs hx x hxx;obtain ⟨i,hi,rfl⟩:=Zbs hx [];have a:=al i hi;obtain ⟨j,hj,e⟩:=Jas.mp hxx;obtain ⟨z,ez,iq⟩:=a.at (i:=j) (y:=x) (by rw [Jaa hj,e]);have hr:(Za7 p pl (done ++ left) pl.length).getD i [] ∈ Za7 p pl (done ++ left) pl.length:=Zap (Ze2 ml hi);have s1:=sm _ hr;have ldb:Bt (Zff p k W n) (Za2 pl (Za7 p pl (done ++ left) pl.length) i):=by
  unfold Za2;split
  .exact s1.at _
  .exact Zaz n7 (by decide)
 exact ⟨iq.is,iq.bt _ n7 (s1 z (Jae ez)) ldb⟩
end Pf
namespace Pf
open PySem L2 L3 PyProof.Rows
section
variable {P:Program} {w:World} {K:PySem.W.Frag} {mg:Str->Option Value} {base:Heap} {C PL cL:Addr}
theorem Zqn {p:Int} {k W n:Nat} (hk:k<=31744) (h:p = 0->W<=8/\n<=4):Zff p k W n<=HB:=by
 unfold Zff;split
 .rename_i h0
  obtain ⟨a,b⟩:=h h0;have h1:(W + 1) * k + 1<=9 * 31744 + 1:=Nat.add_le_add_right (Jaz (by omega) hk) 1;have h2:2 ^ (2 * (n - 1))<=2 ^ 6:=Jbh (by decide) (by omega);exact Jat (Jaz h1 h2) (by decide)
 .decide
theorem nbr_55 {p:Int} {W n:Nat} (h:p = 0->W<=8/\n<=4):Zff p 55 W n<=31744/\7<=Zff p 55 W n:=by
 constructor
 .unfold Zff;split
  .rename_i h0
   obtain ⟨a,b⟩:=h h0;have h1:(W + 1) * 55 + 1<=496:=by omega
   have h2:2 ^ (2 * (n - 1))<=2 ^ 6:=Jbh (by decide) (by omega);exact Jat (Jaz h1 h2) (by decide)
  .decide
 .unfold Zff;split
  .have:((W + 1) * 55 + 1) * 1<=((W + 1) * 55 + 1) * 2 ^ (2 * (n - 1)):=Jaz (Jag _) (Jbj _);omega
  .exact Jag _
theorem lmk {m k:Nat} (hm:m<=48) (hk:k<=31744):(m + 1) * k<=NB:=Jat (Jaz (show m + 1<=49 by omega) hk) (by decide)
theorem lr_lim4 {p:Int} {w:Nat} (h:p = 0->w<=4):p = 0->(55 + 1) * 4 ^ w<=134000000:=λh0=>by
 have:4 ^ w<=4 ^ 4:=Jbh (by decide) (h h0);exact Jat (Jaz (Jag _) this) (by decide)
theorem Zus {m k1 k2:Nat} (hm:m<=24) (h1:k1<=70656) (h2:k2<=70656):7 + m * (k1 + k2 + 8) + k1 + k2 + 7<=134000000:=by
 have:=Jaz hm (show k1 + k2 + 8<=141320 by omega);omega
theorem IsRed.goodr {p:Int} {k n:Nat} {M S R:Mv} {pl:List Nat} (hp:GroundP p) (h7:7<=k) (I:IsRed p k n n M S R pl) (hl:M.length = n) (hw:∀ xs ∈ M,xs.length = n):∀ xs ∈ S,Zbc p (Zff p k (n + n) n) xs:=by
 obtain ⟨J,rd,rfl,rfl⟩:=I.ex;have g:=rd.goodr hp h7 (n:=n) (by rw [Jab,Jao]) (Zg0 hl hw);intro xs hx;obtain ⟨row,hr,rfl⟩:=Jap.mp hx;exact λx hxx=>g row hr x (Jco hxx)
def spBR (C PL:Addr):L2.Sp:=λvs H Q _=>∃ (g t r:Addr) (rs:List Addr) (p:Int) (n:Nat) (M:Mv),vs = [.ref g,.int p,.ref t]/\GAt C H g p/\GroundP p/\TabB H p 55 n n t r rs M/\n<=24/\(p = 0->n<=4)/\H PL = some Zos/\∀ H',Same H H'->Q (.bl true) H'
theorem Zqc {f:Addr} {fd:FuncData} (F:Fun K "_law_back_right" "_law_back_right" Zbg f fd) (T:Txt K mg C) (C_law_copy:Cal P w K mg base "_law_copy" 1 Zja) (C_law_reduced:Cal P w K mg base "_law_reduced" 5 Zng) (C_back_of:Cal P w K mg base "back_of" 10 (Zpq C PL)) (C_law_good:Cal P w K mg base "_law_good" 3 Znh) (C_law_product:Cal P w K mg base "_law_product" 4 Zpk) (C_law_plain:Cal P w K mg base "_law_plain" 2 spLpl):FnOk P w K mg base CX0 11 f fd ["_law_ground","_law_p","_law_table_here"] (spBR C PL):=by
 have nd:=Zea.nd;refine F.ok Zea (λvs H Q E h=>?_) (λcdv A outer s H vs Q E hr h=>?_)
 .obtain ⟨g,t,r,rs,p,n,M,rfl,_⟩:=h;rfl
 .obtain ⟨g,t,r,rs,p,n,M,rfl,hg,hp,tb,n24,h4,hPL,q⟩:=h;have Zfy:∀ {c A B:Prop} [Decidable c],¬ c->B->if c then A else B:=λhc h=>by rw [if_neg hc]; exact h
  have k7:7<=55:=by decide
  have h48:p = 0->n + n<=8/\n<=4:=λh0=>⟨by have:=h4 h0; omega,h4 h0⟩
  have jl:(Zfx M n).length = n:=by rw [Jab,Jao]
  refine ⟨_,((Zar (i:=3) nd rfl (Or.inl rfl) (Za5 C_law_copy hr.m rfl ((pv 2)<&>Zaa)))<*>((Zar (i:=4) nd rfl (Or.inl rfl) (Zcs Zem (Zaq<|>(Za5 C_law_reduced hr.m rfl ((pv 1)<&>((pv 2)<&>Zaa)))<||>Zac) (Zaq<|>(pv 2)<||>Zac) (Zan _)))<*>((Zco Ja8 rfl (Zgb rfl T.n_range ((Zdf<|>Zac<&&>(Zp2 Ziv rfl T.n_int boot_int ((Zcs Zi3 (Zaq<|>(pv 2)<||>Zac) Zac (Zan _))<&>Zaa)))<&>Zaa)) (@Zae _ _ 5 _ nd rfl (Or.inl rfl) (Or.inl rfl)) ((Zar (i:=6) nd rfl (Or.inl rfl) (Za5 C_back_of hr.m rfl ((pv 0)<&>((pv 3)<&>Zaa))))<*>((@Za4 _ _ _ _ _ _ _ _ (PW.pt (Zhl (Zai (Zgm (Zfa hr)) (pv 3) (pv 2) (Zan _)) (Zgk (Zai Zem (Zcs Zno (pv 6) Zf5 (Zan _)) (pv 4) (Zan _))))) (~~~Zes) Zao)<*>((@Za4 _ _ _ _ _ _ _ _ (Zai Zno (pv 6) Zf5 (Zan _)) (@Zas _ _ _ Zim) Zao)<*>((@Za4 _ _ _ _ _ _ _ _ (PW.pt (Zhl (Zd3 (Zd2 (Za5 C_law_good hr.m rfl ((pv 1)<&>((pv 6)<&>((pv 6)<&>Zaa)))))) (Zgk (Zai (Zgm (Zfa hr)) (Za5 C_law_product hr.m rfl ((pv 1)<&>((pv 6)<&>((pv 2)<&>Zaa)))) (Za5 C_law_plain hr.m rfl ((pv 1)<&>((Zaq<|>(pv 2)<||>Zac)<&>Zaa))) (Zan _))))) (~~~Zes) Zao)<*>((@Za4 _ _ _ _ _ _ _ _ (Zai (Zgm (Zfa hr)) (Za5 C_law_product hr.m rfl ((pv 1)<&>((pv 2)<&>((pv 6)<&>Zaa)))) (Za5 C_law_plain hr.m rfl ((pv 1)<&>((Zaq<|>(pv 2)<||>Zac)<&>Zaa))) (Zan _)) (~~~Zes) Zao)<*>((@Za4 _ _ _ _ _ _ _ _ (PW.pt (Zk5 (Zai Zi3 (Zaq<|>(pv 2)<||>Zac) Zac (Zan _)) (Zil (Zai (Zgm (Zfa hr)) (Za5 C_back_of hr.m rfl ((pv 0)<&>((Za5 C_law_copy hr.m rfl ((pv 6)<&>Zaa))<&>Zaa))) (pv 2) (Zan _))))) (~~~Zes) Zao)<*>(@Zas _ _ _ (Zco Ja8 rfl (Zbd (Zaq<|>(pv 6)<||>Zac)) (@Zae _ _ 7 _ nd rfl (Or.inl rfl) (Or.inl rfl)) (@Zas _ _ _ (Zdx (Zhm Jbk Jbt Jbu Zb1 (pv 7) (Zf5<&>Zaa)))))))))))))<*>(~~~Zes)))),?_⟩;refine cut2 λX0 hX0=>?_;walk_at "wp";refine ⟨p,n,n,t,r,rs,M,rfl,tb.tv,by rw [tb.hl]; exact oz3 n24,λt1 r1 rs1 H1 s1 nw1 tb1=>?_⟩;refine ⟨p,t,r,rs,55,n,n,M,rfl,hp,tb.same s1,k7,n24,Jat n24 (by decide),lr_lim4 h4,λt2 tm rm rsm D pl H2 s2 ht2 nwm tbm lr=>?_⟩;have s02:=s1.trans s2;have rkM:=lr_rk tb.hl lr;have T1:TabB H2 p 55 n n t1 r1 rs1 M:=⟨tb1.same s2,tb.hl,tb.hw,tb.gd⟩
  have T2:=tb.same s02;refine ⟨t2,rfl,_,SqT.of ht2,_,rfl,_,SqT.of T2.tv.tup,_,rfl,rfl,?_⟩;subst hX0;walk_at "wp";refine ⟨_,rfl,t,_,0,_,rfl,rfl,SqT.of T2.tv.tup,rfl,_,_,rfl,rfl,.inr ⟨_,rfl,_,_,rfl,rfl,_,rfl,by split <;> omega,by split <;> omega,Zch (λj σ H7=>∃ v5 v6 v7:Option V,σ = [some (V.ref g),some (V.int p),some (V.ref t),some (V.ref t1),some (V.bl (decide ((pl.length:Int) = (n:Int)))),v5,v6,v7]/\Same H2 H7) ⟨_,_,_,rfl,Same.refl _⟩ ?_ ?_⟩⟩
  .rintro j σ H7 hj ⟨v5,v6,v7,rfl,s7⟩;have s07:=s02.trans s7;have T1':=T1.same s7;have T2':=T2.same s7;refine Zt6 λD1 hD1=>?_;simp only [Zb4,Jbi,Jce];refine Zfv λX hX=>?_;walk_at "wp";refine ⟨g,t1,r1,rs1,p,55,n,M,rfl,hg.same s07,hp,T1',n24,k7,Zkt hp k7 jl (Zg0 tb.hl tb.hw) (Zqn (by decide) h48),lmk (oz6 n24) (by decide),s07 _ _ hPL,λtS rS rsS S R pl2 H8 s8 nwS tvS ir=>⟨λeR=>?_,λnR=>?_⟩⟩
   .have eu:=(ir.rk hp k7 tb.hl tb.hw tb.gd).uniq hp rkM;have en:=(Zix hp k7 ir tb.hl tb.hw tb.gd).mp eR;have s28:=s7.trans s8;have T1s:=T1.same s28;have T2s:=T2.same s28;subst hX;refine Zfv λX hX=>?_;walk_at "wp";refine ⟨_,SqT.of T1s.tv.tup,_,SqT.of T2s.tv.tup,_,TabV.items T1s.tv T2s.tv,Zfy (by rw [Zcr]; decide) (Zfy ?_ ?_)⟩
    .rw [Jbc (show ((pl.length:Nat):Int) = (n:Int) by omega)];simp
    subst hX;refine Zfv λX hX=>?_;walk_at "wp";refine Zfy (by simp) ?_;obtain ⟨b1,b2⟩:=Zjw hp k7 ir tb.hl tb.hw tb.gd eR;obtain ⟨g1,g2,g3,g4⟩:=ir.good hp k7 tb.hl tb.hw;have gr:=ir.goodr hp k7 tb.hl tb.hw;obtain ⟨nbl,nb7⟩:=nbr_55 (p:=p) (W:=n + n) (n:=n) h48;have TS:TabB H8 p (Zff p 55 (n + n) n) n n tS rS rsS S:=⟨tvS,g1,λxs hx=>(g3 xs hx).1,gr⟩
    have mM:Mat p n n M:=⟨tb.hl,tb.hw,λxs hx x hxx=>(tb.gd xs hx x hxx).1⟩
    subst hX;refine cut2 λX hX=>?_;walk_at "wp";refine ⟨p,n,n,tS,rS,tS,rS,rsS,rsS,S,rfl,hp,tvS,tvS,λrow hr=>by have:=(g3 row hr).1; exact oz24 n24 this,λH9 s9=>⟨true,rfl,Znu ?_⟩⟩;have s29:=s28.trans s9;refine ⟨tS,rS,t,r,rsS,rs,p,n,n,n,_,55,S,M,rfl,hp,TS.same s9,T2.same s29,oz3 n24,oz3 n24,oz3 n24,Zus n24 (Jat nbl (by decide)) (by decide),λta ra rsa Ha sa tva=>?_⟩;rw [b1] at tva;have s2a:=s29.trans sa;refine ⟨_,SqT.of (T2.same s2a).tv.tup,_,rfl,p,n,rfl,hp,Ze3,Zma n24,λtb' rb rsb Hb sb tvb=>?_⟩;rw [Jau] at tvb;refine ⟨ta,rfl,tb',rfl,_,SqT.of (tva.same sb).tup,_,SqT.of tvb.tup,_,TabV.items (tva.same sb) tvb,Zfy (by rw [Zcr]; decide) ?_⟩;have s2b:=s2a.trans sb;have s8b:=(s9.trans sa).trans sb;refine ⟨t,r,tS,rS,rs,rsS,p,n,n,n,55,_,M,S,rfl,hp,T2.same s2b,TS.same s8b,oz3 n24,oz3 n24,oz3 n24,Zus n24 (by decide) (Jat nbl (by decide)),λtc rc rsc Hc sc tvc=>?_⟩;rw [b2] at tvc;have s2c:=s2b.trans sc;refine ⟨_,SqT.of (T2.same s2c).tv.tup,_,rfl,p,n,rfl,hp,Ze3,Zma n24,λtd rd' rsd Hd sd tvd=>?_⟩;rw [Jau] at tvd;refine ⟨tc,rfl,td,rfl,_,SqT.of (tvc.same sd).tup,_,SqT.of tvd.tup,_,TabV.items (tvc.same sd) tvd,Zfy (by rw [Zcr]; decide) ?_⟩;have s2d:=s2c.trans sd;have s8d:=s8b.trans (sc.trans sd);have s0d:=s02.trans s2d;subst hX;refine Zfv λX hX=>?_;have aft:∀ He,Same H8 He->X D1 [some (V.ref g),some (V.int p),some (V.ref t),some (V.ref t1),some (V.bl (decide ((pl.length:Int) = (n:Int)))),some (V.int (0 + (j:Int))),some (V.ref tS),v7] He:=by
     intro He se;subst hX;have TSe:=TS.same se;have ls:=TSe.tv.row.1;have rowsB:∀ b ∈ rsS,H2 b = none/\∃ us,He b = some (.lst us)/\us.length<=300:=λb hb=>by
      obtain ⟨i,hi,rfl⟩:=Jas.mp hb;obtain ⟨row,er,us,hu,al⟩:=TSe.tv.row.at' (Jaa hi);have h1:=al.1;have h2:=TS.hw row (Jae er);exact ⟨s7.free (nwS.rs _ hb),us,hu,by omega⟩
     refine ⟨_,rfl,tS,_,2,_,rfl,rfl,SqT.of TSe.tv.tup,rfl,rS,rfl,⟨_,SqL.of TSe.tv.lst⟩,Zfu (xs:=rsS.map V.ref) (λi σ H15=>∃ v9:Option V,σ = [some (V.ref g),some (V.int p),some (V.ref t),some (V.ref t1),some (V.bl (decide ((pl.length:Int) = (n:Int)))),some (V.int (0 + (j:Int))),some (V.ref tS),v9]/\Same H2 H15/\H15 rS = some (.lst (rsS.map V.ref))/\∀ b ∈ rsS,∃ us,H15 b = some (.lst us)/\us.length<=300 + i)
      ⟨_,rfl,s28.trans se,TSe.tv.lst,λb hb=>by obtain ⟨_,us,hu,ul⟩:=rowsB b hb; exact ⟨us,hu,by omega⟩⟩ (λi σ H15 _ ⟨_,_,_,e,_⟩=>SqL.of e) ?_ ?_⟩
     .rintro i x σ H15 hx ⟨v9',rfl,s15,hL15,ha15⟩;rw [Jad] at hx;cases eb:rsS[i]? with
      | none=>rw [eb] at hx; cases hx
      | some b=>
       rw [eb] at hx;cases hx;have hb:=Jae eb;have hjl:i < rsS.length:=(Jah.mp eb).1;obtain ⟨us,hu,ul⟩:=ha15 b hb;have l1:=TSe.hl;walk_at "wp";refine ⟨tyL hu,_,hu,Zau (oz69 n24 g1 ls hjl ul),s15.upd (rowsB b hb).1,?_,λc hc=>?_⟩
       .have nb':rS ≠ b:=λz=>TSe.tv.nin (by rw [z]; exact hb);rw [Zal nb'];exact hL15
       .by_cases hcb:c = b
        .subst hcb;exact ⟨_,Zab,by rw [Jam]; show us.length + 1<=_; omega⟩
        .obtain ⟨us',hu',ul'⟩:=ha15 c hc;exact ⟨us',by rw [Zal hcb]; exact hu',by omega⟩
     .rintro σ H15 ⟨v9',rfl,s15,hL15,ha15⟩;rw [hD1];exact ⟨_,_,_,rfl,s15⟩
    walk_at "wp";have jlS:(Zfx S n).length = n:=by rw [Jab,Jao]
    refine ⟨_,SqT.of (T2.same s2d).tv.tup,_,rfl,_,rfl,Zdz (λ_=>?_) (λ_=>aft Hd s8d)⟩;refine ⟨p,n,n,tS,rS,rsS,S,rfl,(TS.same s8d).tv,by rw [g1]; exact oz3 n24,λte re rse He se nwe tbe=>?_⟩;have s0e:=s0d.trans se;refine ⟨g,te,re,rse,p,_,n,S,rfl,hg.same s0e,hp,⟨tbe,TS.hl,TS.hw,TS.gd⟩,n24,nb7,Zkt hp nb7 jlS (Zg0 TS.hl TS.hw) (Zqn nbl h48),lmk (oz6 n24) nbl,s0e _ _ hPL,λtS2 rS2 rsS2 S2 R2 pl3 Hf sf nwf tvf ir2=>?_⟩;obtain ⟨eR2,eS2⟩:=Zrz hp nb7 mM TS.hl TS.hw TS.gd b1 b2 ir2;refine ⟨λ_=>?_,λz=>absurd eR2 z⟩;subst eS2;have s2f:=s2d.trans (se.trans sf);refine ⟨tS2,rfl,_,SqT.of tvf.tup,_,SqT.of (T2.same s2f).tv.tup,_,TabV.items tvf (T2.same s2f).tv,Zfy (by rw [Zcr]; decide) (aft Hf (s8d.trans (se.trans sf)))⟩
   .have eu:=(ir.rk hp k7 tb.hl tb.hw tb.gd).uniq hp rkM;have en:¬ pl2.length = n:=λz=>nR ((Zix hp k7 ir tb.hl tb.hw tb.gd).mpr z);have s28:=s7.trans s8;have T1s:=T1.same s28;have T2s:=T2.same s28;subst hX;refine Zfv λX hX=>?_;walk_at "wp";refine ⟨_,SqT.of T1s.tv.tup,_,SqT.of T2s.tv.tup,_,TabV.items T1s.tv T2s.tv,Zfy (by rw [Zcr]; decide) (Zfy ?_ ?_)⟩
    .rw [Jb4 (show ¬ ((pl.length:Nat):Int) = (n:Int) by omega)];simp
    .subst hX;refine Zfv λX hX=>?_;walk_at "wp";rw [if_pos (by simp),hD1];exact ⟨_,_,_,rfl,s28⟩
  .rintro σ H7 ⟨v5,v6,v7,rfl,s7⟩;walk_at "wp";exact q H7 (s02.trans s7)
abbrev KC:Nat:=715
theorem nb_led {p:Int} {w:Nat} (h:p = 0->w<=4):Zdh p KC (w + 1) w<=1098496/\7<=Zdh p KC (w + 1) w:=by
 constructor
 .unfold Zdh;split
  .rename_i h0
   have:=h h0;have h1:(w + 1 + 1) * KC + 1<=4291:=by show (w + 1 + 1) * 715 + 1<=4291; omega
   have h2:2 ^ (2 * w)<=2 ^ 8:=Jbh (by decide) (by omega);exact Jat (Jaz h1 h2) (by decide)
  .decide
 .unfold Zdh;split
  .have:((w + 1 + 1) * KC + 1) * 1<=((w + 1 + 1) * KC + 1) * 2 ^ (2 * w):=Jaz (Jag _) (Jbj _);have:7<=(w + 1 + 1) * KC:=by show 7<=(w + 1 + 1) * 715; omega
   omega
  .exact Jag _
theorem Zqr {p:Int} {w:Nat} (h:p = 0->w<=5):p = 0->(KC + 1) * 4 ^ w<=134000000:=λh0=>by
 have:4 ^ w<=4 ^ 5:=Jbh (by decide) (h h0);exact Jat (Jaz (Jag _) this) (by decide)
theorem lmc {m:Nat} (hm:m<=48):(m + 1) * KC<=NB:=Jat (Jaz (show m + 1<=49 by omega) (Jag _)) (by decide)
def spLR (C PL:Addr):L2.Sp:=λvs H Q _=>∃ (g t r t2 r2:Addr) (rs rs2:List Addr) (p:Int) (n w:Nat) (M B:Mv),vs = [.ref g,.int p,.ref t,.ref t2]/\GAt C H g p/\GroundP p/\TabB H p KC n w t r rs M/\TabB H p KC n 1 t2 r2 rs2 B/\n<=24/\w<=24/\(p = 0->w<=4)/\H PL = some Zos/\∀ H',Same H H'->Q (.bl true) H'
theorem Zp8 {f:Addr} {fd:FuncData} (F:Fun K "_law_led_right" "_law_led_right" Zbl f fd) (T:Txt K mg C) (C_law_copy:Cal P w K mg base "_law_copy" 1 Zja) (C_law_reduced:Cal P w K mg base "_law_reduced" 5 Zng) (C_law_pasted:Cal P w K mg base "_law_pasted" 1 Zmk) (C_led_to:Cal P w K mg base "led_to" 10 (Zoh C PL)) (C_law_good:Cal P w K mg base "_law_good" 3 Znh) (C_law_product:Cal P w K mg base "_law_product" 4 Zpk):FnOk P w K mg base CX0 11 f fd ["_law_ground","_law_p","_law_table_here","_law_column"] (spLR C PL):=by
 have nd:=Ze0.nd;refine F.ok Ze0 (λvs H Q E h=>?_) (λcdv A outer s H vs Q E hr h=>?_)
 .obtain ⟨g,t,r,t2,r2,rs,rs2,p,n,w,M,B,rfl,_⟩:=h;rfl
 .obtain ⟨g,t,r,t2,r2,rs,rs2,p,n,w,M,B,rfl,hg,hp,tb,tc,n24,w24,h4,hPL,q⟩:=h;have Zfy:∀ {c A B:Prop} [Decidable c],¬ c->B->if c then A else B:=λhc h=>by rw [if_neg hc]; exact h
  have k7:7<=KC:=by decide
  refine ⟨_,((Zar (i:=4) nd rfl (Or.inl rfl) (@Zce _ _ _ _ ((Za5 C_law_copy hr.m rfl ((pv 2)<&>Zaa))<&>((Za5 C_law_copy hr.m rfl ((pv 3)<&>Zaa))<&>Zaa))))<*>((Zar (i:=5) nd rfl (Or.inl rfl) (Zcs Zem (Zaq<|>(Za5 C_law_reduced hr.m rfl ((pv 1)<&>((Za5 C_law_pasted hr.m rfl ((pv 2)<&>((pv 3)<&>Zaa)))<&>Zaa)))<||>Zac) (Zaq<|>(Za5 C_law_reduced hr.m rfl ((pv 1)<&>((pv 2)<&>Zaa)))<||>Zac) (Zan _)))<*>((Zar (i:=6) nd rfl (Or.inl rfl) (Za5 C_led_to hr.m rfl ((pv 0)<&>((Zat<|>(pv 4)<||>Zac)<&>((Zat<|>(pv 4)<||>Zac)<&>Zaa)))))<*>((@Za4 _ _ _ _ _ _ _ _ (PW.pt (Zhl (Zai (op_neL (Zfa hr)) (pv 4) (@Zce _ _ _ _ ((pv 2)<&>((pv 3)<&>Zaa))) (Zan _)) (Zgk (Zai Zem (Zcs Zno (pv 6) Zf5 (Zan _)) (pv 5) (Zan _))))) (~~~Zes) Zao)<*>((@Za4 _ _ _ _ _ _ _ _ (Zai Zno (pv 6) Zf5 (Zan _)) (~~~Zes) Zao)<*>((@Za4 _ _ _ _ _ _ _ _ (PW.pt (Zhl (Zd3 (Zd2 (Za5 C_law_good hr.m rfl ((pv 1)<&>((pv 6)<&>((pv 6)<&>Zaa)))))) (Zhl (Zai (Zgm (Zfa hr)) (@Zd4 _ _ _ _ _ _ _ _ _ _ sl_tup (pv 6) Zga (@Zd9 _ _ _ Zac)) (@Za9 _ _ _ _ _ ((Zaq<|>(pv 2)<||>Zac)<&>(Zac<&>Zaa))) (Zan _)) (Zgk (Zai Zgn (Zcj Zb5 rfl T.n_len Jdq ((Zaq<|>(pv 6)<||>Zac)<&>Zaa)) (Zaq<|>(pv 2)<||>Zac) (Zan _)))))) (~~~Zes) Zao)<*>((@Za4 _ _ _ _ _ _ _ _ (Zai (Zgm (Zfa hr)) (Za5 C_law_product hr.m rfl ((pv 1)<&>((pv 2)<&>((pv 6)<&>Zaa)))) (pv 3) (Zan _)) (~~~Zes) Zao)<*>((Zdx (Zhm Jbk Jbt Jbu Zb1 (Zaq<|>(pv 6)<||>Zac) (Zf5<&>Zaa)))<*>(~~~(Zcs (Zuy (Zfa hr)) (pv 4) (@Zce _ _ _ _ ((pv 2)<&>((pv 3)<&>Zaa))) (Zan _))))))))))),?_⟩;refine Zfv λX hX=>?_;walk_at "wp";refine ⟨p,n,w,t,r,rs,M,rfl,tb.tv,by rw [tb.hl]; exact oz3 n24,λt3 r3 rs3 H3 s3 nw3 tb3=>?_⟩;refine ⟨p,n,1,t2,r2,rs2,B,rfl,(tc.same s3).tv,by rw [tc.hl]; exact oz3 n24,λt4 r4 rs4 H4 s4 nw4 tb4=>⟨by decide,λLH hLH=>?_⟩⟩;have s5:=Same.new (o:=.lst [V.ref t3,V.ref t4]) hLH;have s05:=(s3.trans s4).trans s5;have hL5:upd H4 LH (.lst [V.ref t3,V.ref t4]) LH = some (.lst [V.ref t3,V.ref t4]):=Zab;have T3:TabB (upd H4 LH (.lst [V.ref t3,V.ref t4])) p KC n w t3 r3 rs3 M:=⟨(tb3.same s4).same s5,tb.hl,tb.hw,tb.gd⟩
  have T4:TabB (upd H4 LH (.lst [V.ref t3,V.ref t4])) p KC n 1 t4 r4 rs4 B:=⟨tb4.same s5,tc.hl,tc.hw,tc.gd⟩
  generalize upd H4 LH (.lst [V.ref t3,V.ref t4]) = H5 at *;subst hX;refine Zfv λX hX=>?_;walk_at "wp";refine ⟨t,r,t2,r2,rs,rs2,p,KC,n,w,1,M,B,rfl,tb.same s05,tc.same s05,oz3 n24,oz3 w24,by decide,λt6 r6 rs6 H6 s6 nw6 tb6=>?_⟩;refine ⟨p,t6,r6,rs6,KC,n,w + 1,_,rfl,hp,tb6,k7,n24,by omega,Zqr (λh0=>by have:=h4 h0; omega),λt7 tm7 rm7 rsm7 D7 pl7 H7 s7 ht7 nwm7 tbm7 lr7=>⟨t7,rfl,_,SqT.of ht7,_,rfl,?_⟩⟩;have s07:=s05.trans (s6.trans s7);refine ⟨p,t,r,rs,KC,n,w,M,rfl,hp,tb.same s07,k7,n24,Jat w24 (by decide),Zqr (λh0=>by have:=h4 h0; omega),λt8 tm8 rm8 rsm8 D8 pl8 H8 s8 ht8 nwm8 tbm8 lr8=>⟨t8,rfl,_,SqT.of ht8,_,rfl,?_⟩⟩;have s58:=(s6.trans s7).trans s8;have s08:=s05.trans s58;have rkJ:=lr_rk tb6.hl lr7;have rkM:=lr_rk tb.hl lr8;obtain ⟨nbl,nb7⟩:=nb_led h4;have T3':=T3.same s58;have T4':=T4.same s58;have hL8:=s58 _ _ hL5;refine ⟨rfl,?_⟩;subst hX;refine Zfv λX hX=>?_;walk_at "wp";refine ⟨_,SqL.of hL8,_,rfl,_,SqL.of hL8,_,rfl,g,t3,r3,t4,r4,rs3,rs4,p,KC,n,w,1,M,B,rfl,hg.same s08,hp,T3',T4',n24,w24,by decide,k7,Jat nbl (by decide),lmc (by omega),s08 _ _ hPL,λJ pl H9 s9 rd=>?_⟩;have eu:pl8.length = pl.length:=rkM.uniq hp (jn_rk hp k7 rd tb.hl tb.hw tb.gd tc.hl tc.hw tc.gd);have same:∀ H',Same H8 H'->Zfj K H' 6 [V.ref t3,V.ref t4] [V.ref t,V.ref t2] (List.replicate 2 true):=λH' s'=>by
   have a1:=(T3'.same s').tv;have a2:=((tb.same s08).same s').tv;have a3:=(T4'.same s').tv;have a4:=((tc.same s08).same s').tv;refine Zhx rfl λi x y e1 e2=>?_
   match i,e1,e2 with
   | 0,e1,e2=>cases e1; cases e2; exact a1.eq (n:=2) a2
   | 1,e1,e2=>cases e1; cases e2; exact a3.eq (n:=2) a4
   | i + 2,e1,e2=>cases e1
  refine ⟨λnt=>?_,λnt t' r' rs' X' H' s' nw' tv' L=>?_⟩
  .have ne:=led_no hp k7 rd tb.hl tb.hw tb.gd tc.hl tc.hw tc.gd nt _ rkJ;subst hX;refine Zfv λX hX=>?_;walk_at "wp";refine ⟨by decide,λLN hLN=>?_⟩;have sN:=Same.new (o:=.lst [V.ref t,V.ref t2]) hLN;have s8N:=s9.trans sN;refine ⟨_,SqL.of (s8N _ _ hL8),_,SqL.of Zab,.inr ⟨_,same _ s8N,Zfy (by rw [Zcr]; decide) (Zfy ?_ ?_)⟩⟩
   .rw [Jb4 (show ¬ ((pl7.length:Nat):Int) = (pl8.length:Nat) by omega)];simp
   .subst hX;walk_at "wp";exact q _ (s08.trans s8N)
  .obtain ⟨e1,e2⟩:=led_yes hp k7 rd tb.hl tb.hw tb.gd tc.hl tc.hw tc.gd nt L;have ef:=e2 _ rkJ;subst hX;refine Zfv λX hX=>?_;walk_at "wp";refine ⟨by decide,λLN hLN=>?_⟩;have sN:=Same.new (o:=.lst [V.ref t,V.ref t2]) hLN;have s8N:=s'.trans sN;refine ⟨_,SqL.of (s8N _ _ hL8),_,SqL.of Zab,.inr ⟨_,same _ s8N,Zfy (by rw [Zcr]; decide) (Zfy ?_ ?_)⟩⟩
   .rw [Jbc (show ((pl7.length:Nat):Int) = (pl8.length:Nat) by omega)];simp
   subst hX;refine Zfv λX hX=>?_;walk_at "wp";refine Zfy (by simp) ?_;subst hX;refine Zfv λX hX=>?_;walk_at "wp";obtain ⟨F0,_,hF0⟩:=Zew hp;have jf:=Zq3 hp k7 hF0 rd tb.hl tb.hw tb.gd tc.hl tc.hw tc.gd;obtain ⟨j1,j2,j3⟩:=rd.good hp k7 (Zq1 tb.hl tb.hw tc.hl tc.hw);have rl:=jf.rr.rl;rw [Jab,jf.len] at rl;obtain ⟨mX,gX⟩:=Zqy L hp jf.rr.cn (by rw [jf.len]; exact rl) j2 nb7 j3;have neI:∀ {a b:Int},a = b->¬ (!decide (V.int a = V.int b)) = true:=λe z=>by
    subst e;simp at z
   have s0N:=s08.trans s8N;have tvN:=tv'.same sN;have hLN':upd H' LN (.lst [V.ref t,V.ref t2]) LN = some (.lst [V.ref t,V.ref t2]):=Zab;generalize upd H' LN (.lst [V.ref t,V.ref t2]) = HN at *;refine ⟨p,w,1,t',r',t',r',rs',rs',X',rfl,hp,tvN,tvN,λrow hr=>by have:=mX.hw row hr; omega,λHa sa=>⟨true,rfl,Znu ?_⟩⟩;have s0a:=s0N.trans sa;have tva:=tvN.same sa;refine ⟨t',_,rfl,SqT.of tva.tup,by show ¬ (0 = 0/\min _ _ = 3); omega,λP1 hP1=>?_⟩;have ecut:Zlz [V.int w,V.int (1:Nat),V.ref r'] none (some 2) = [V.int w,V.int (1:Nat)]:=rfl;rw [ecut];have sP:=Same.new (o:=.tup [V.int w,V.int (1:Nat)]) hP1;refine ⟨_,SqT.of (tb.same (s0a.trans sP)).tv.tup,_,rfl,by decide,λP2 hP2=>?_⟩;have sQ:=Same.new (o:=.tup [V.int w,V.int 1]) hP2;refine ⟨P1,rfl,_,SqT.of (sQ _ _ Zab),_,SqT.of Zab,List.replicate 2 true,Zhx rfl (λj x y e1 e2=>?_),Zfy (by rw [Zcr]; decide) ?_⟩
   .match j,e1,e2 with
    | 0,e1,e2=>cases e1; cases e2; exact Zcb
    | 1,e1,e2=>cases e1; cases e2; exact Zcb
    | j + 2,e1,_=>cases e1
   have sPQ:=sP.trans sQ;have s0b:=s0a.trans sPQ;have tvb:=tva.same sPQ;have s8b:=s8N.trans (sa.trans sPQ);have hLb:=(sa.trans sPQ) _ _ hLN';have lrs:=tvb.row.1;have lX:=L.len;generalize upd (upd Ha P1 (.tup [V.int w,V.int (1:Nat)])) P2 (.tup [V.int w,V.int 1]) = Hb at *;refine ⟨_,SqT.of tvb.tup,_,rfl,r',rfl,_,.inl (SqL.of tvb.lst),_,SqT.of (tb.same s0b).tv.tup,_,rfl,rfl,Zfy (neI (by rw [Jab]; omega)) ?_⟩;subst hX;walk_at "wp";have lim:7 + w * (KC + Zdh p KC (w + 1) w + 8) + KC + Zdh p KC (w + 1) w + 7<=134000000:=by
    have h1:=Jaz w24 (show KC + Zdh p KC (w + 1) w + 8<=1099219 by show 715 + Zdh p KC (w + 1) w + 8<=1099219; omega);show 7 + w * (KC + Zdh p KC (w + 1) w + 8) + 715 + Zdh p KC (w + 1) w + 7<=134000000;omega
   refine ⟨t,r,t',r',rs,rs',p,n,w,1,KC,Zdh p KC (w + 1) w,M,X',rfl,hp,tb.same s0b,⟨tvb,L.len,mX.hw,gX⟩,oz3 n24,oz3 w24,by decide,lim,λtp rp rsp Hc sc tvp=>?_⟩;rw [e1] at tvp;have s0c:=s0b.trans sc;have tvc:=tvb.same sc;refine ⟨tp,rfl,_,SqT.of tvp.tup,_,SqT.of (tc.same s0c).tv.tup,_,TabV.items tvp (tc.same s0c).tv,Zfy (by rw [Zcr]; decide) ⟨_,SqT.of tvc.tup,_,rfl,tyL tvc.lst,r',rfl,_,tvc.lst,Zau (by rw [Jab]; omega),by decide,λLN2 hLN2=>?_⟩⟩;have sD:=(s8b.trans sc).upd (o:=.lst (rs'.map V.ref ++ [V.non])) nw'.r;have sE:=Same.new (o:=.lst [V.ref t,V.ref t2]) hLN2;have sDE:=sD.trans sE;refine ⟨_,SqL.of (sDE _ _ hL8),_,SqL.of Zab,.inr ⟨_,same _ sDE,?_⟩⟩;rw [Zcr];exact q _ (s08.trans sDE)
theorem cut5 {A1 A2 A3 A4 A5 X:TS} {D:Ends} {σ:L2.St} {H:Hp} (h:∀ X',X' = X->Zi7 A1 (Zi7 A2 (Zi7 A3 (Zi7 A4 (Zi7 A5 X')))) D σ H):Zi7 A1 (Zi7 A2 (Zi7 A3 (Zi7 A4 (Zi7 A5 X)))) D σ H:=h X rfl
theorem TabB.up {H:Hp} {p:Int} {k k2 n wd:Nat} {t r:Addr} {rs:List Addr} {M:Mv} (h:TabB H p k n wd t r rs M) (hk:k<=k2):TabB H p k2 n wd t r rs M:=⟨h.tv,h.hl,h.hw,λxs hx x hxx=>⟨(h.gd xs hx x hxx).1,(h.gd xs hx x hxx).2.1.le hk,(h.gd xs hx x hxx).2.2.le hk⟩⟩
theorem TabB.ext {l:Addr} {H H':Hp} {p:Int} {k n wd:Nat} {t r:Addr} {rs:List Addr} {M:Mv} (h:TabB H p k n wd t r rs M) (b:Bag H l) (e:Ext l H H') (nr:r ≠ l) (ns:l ∉ rs):TabB H' p k n wd t r rs M:=⟨h.tv.ext b e nr ns,h.hl,h.hw,h.gd⟩
theorem Bag.off {H:Hp} {l r:Addr} {rs:List Addr} (b:Bag H l) (nr:H r = none) (nrs:∀ a ∈ rs,H a = none):r ≠ l/\l ∉ rs:=by
 obtain ⟨xa,xb,h,_⟩:=b;exact ⟨λz=>(by rw [z,h] at nr; cases nr),λz=>(by rw [nrs l z] at h; cases h)⟩
def Zsn (K:PySem.W.Frag) (PL:Addr):L2.Sp:=λvs H Q _=>∃ (a:Addr) (ns:List Int),vs = [.ref a]/\SqL K H a (ns.map V.int)/\ns.length<=63/\H PL = some Zos/\∀ H',H' PL = some Zos->Q (.bl true) H'
theorem ok_law {f:Addr} {fd:FuncData} (F:Fun K "law" "law" Zj4 f fd) (T:Txt K mg C) (C_law_cell:Cal P w K mg base "_law_cell" 1 (Zpp K)) (C_law_bag:Cal P w K mg base "_law_bag" 1 spBag) (C_law_prime:Cal P w K mg base "_law_prime" 2 spPr) (C_Ground:CalI P w K mg base "Ground" C 3 (Zpn C)) (C_law_most:Cal P w K mg base "_law_most" 2 Zpj) (C_law_draw:Cal P w K mg base "_law_draw" 1 Zgf) (C_law_table:Cal P w K mg base "_law_table" 5 spTb) (C_law_back_right:Cal P w K mg base "_law_back_right" 11 (spBR C PL)) (C_law_copy:Cal P w K mg base "_law_copy" 1 Zja) (C_product:Cal P w K mg base "product" 8 (Zpi C)) (C_law_product:Cal P w K mg base "_law_product" 4 Zpk) (C_law_led_right:Cal P w K mg base "_law_led_right" 11 (spLR C PL)):FnOk P w K mg base CX0 12 f fd ["_law_script"] (Zsn K PL):=by
 have nd:=Zun.nd;refine F.ok Zun (λvs H Q E h=>?_) (λcdv A outer s H vs Q E hr h=>?_)
 .obtain ⟨a,ns,rfl,_⟩:=h;rfl
 .obtain ⟨a,ns,rfl,hS,hl,hPL,q⟩:=h;refine ⟨_,((Zco Ja8 rfl (Zuq rfl T.n_enumerate ((Zp5<|>(@Zce _ _ _ _ ((Za5 C_law_cell hr.m rfl ((pv 0)<&>(Zac<&>Zaa)))<&>(Zac<&>Zaa)))<&&>(@Zd4 _ _ _ _ _ _ _ _ _ _ Zh5 (pv 0) (@Zd9 _ _ _ Zac) (@Zd9 _ _ _ Zac)))<&>Zaa)) (@Zcd _ _ _ _ _ 2 rfl (@Zag _ _ _ _ _ (@Zae _ _ 1 _ nd rfl (Or.inl rfl) (Or.inl rfl)) (@Zag _ _ _ _ _ (@Zae _ _ 2 _ nd rfl (Or.inl rfl) (Or.inl rfl)) (@Za3 _) (by rfl)) (by rfl)) (by rfl) (by rfl)) ((Zar (i:=3) nd rfl (Or.inl rfl) (Za5 C_law_bag hr.m rfl ((pv 2)<&>Zaa)))<*>((Zar (i:=4) nd rfl (Or.inl rfl) (Za5 C_law_prime hr.m rfl ((pv 3)<&>Zaa)))<*>((Zar (i:=5) nd rfl (Or.inl rfl) (pe_n C_Ground hr.m rfl ((pv 4)<&>Zaa)))<*>((Zar (i:=6) nd rfl (Or.inl rfl) (Za5 C_law_most hr.m rfl ((pv 3)<&>((pv 4)<&>Zaa))))<*>((@Za4 _ _ _ _ _ _ _ _ (Zai Ze4 (pv 1) Zac (Zan _)) (@Zas _ _ _ (Zar (i:=6) nd rfl (Or.inl rfl) (Zcj (Ziu rfl) rfl T.n_min boot_min ((pv 6)<&>(Zac<&>Zaa))))) Zao)<*>((Zar (i:=7) nd rfl (Or.inl rfl) (Za5 C_law_draw hr.m rfl ((pv 3)<&>((Zdf<|>(pv 6)<&&>Zac)<&>Zaa))))<*>((@Za4 _ _ _ _ _ _ _ _ (Zd3 (Zd2 (Za5 C_law_back_right hr.m rfl ((pv 5)<&>((pv 4)<&>((Za5 C_law_table hr.m rfl ((pv 3)<&>((pv 4)<&>((pv 7)<&>((pv 7)<&>Zaa)))))<&>Zaa)))))) (~~~Zes) Zao)<*>((Zar (i:=8) nd rfl (Or.inl rfl) (Za5 C_law_table hr.m rfl ((pv 3)<&>((pv 4)<&>((pv 7)<&>((Za5 C_law_draw hr.m rfl ((pv 3)<&>((Zcj (Ziu rfl) rfl T.n_min boot_min ((pv 6)<&>(Zac<&>Zaa)))<&>Zaa)))<&>Zaa))))))<*>((Zar (i:=9) nd rfl (Or.inl rfl) (Za5 C_law_table hr.m rfl ((pv 3)<&>((pv 4)<&>((Zaq<|>(pv 8)<||>Zac)<&>(Zac<&>Zaa))))))<*>((Zar (i:=10) nd rfl (Or.inl rfl) (Za5 C_product hr.m rfl ((pv 5)<&>((Za5 C_law_copy hr.m rfl ((pv 8)<&>Zaa))<&>((Za5 C_law_copy hr.m rfl ((pv 9)<&>Zaa))<&>Zaa)))))<*>((@Za4 _ _ _ _ _ _ _ _ (Zai (Zgm (Zfa hr)) (pv 10) (Za5 C_law_product hr.m rfl ((pv 4)<&>((pv 8)<&>((pv 9)<&>Zaa)))) (Zan _)) (~~~Zes) Zao)<*>(@Zas _ _ _ (Zco Ja8 rfl (pi_tup (@Za9 _ _ _ _ _ ((pv 10)<&>((Za5 C_law_table hr.m rfl ((pv 3)<&>((pv 4)<&>((pv 7)<&>(Zac<&>Zaa)))))<&>Zaa)))) (@Zae _ _ 11 _ nd rfl (Or.inl rfl) (Or.inl rfl)) (@Zas _ _ _ (@Za4 _ _ _ _ _ _ _ _ (Zd3 (Zd2 (Za5 C_law_led_right hr.m rfl ((pv 5)<&>((pv 4)<&>((pv 8)<&>((pv 11)<&>Zaa))))))) (~~~Zes) Zao))))))))))))))))<*>(~~~Zes)),?_⟩;obtain ⟨ms,hms,hml⟩:=Zt5 ns (some 1) (some 6);walk_at "wp";refine ⟨_,rfl,a,ns,0,rfl,hS,hl,by decide,λc0=>⟨by show 2<=sizeLine; decide,λp1 hp1=>⟨_,rfl,_,rfl,_,rfl,a,_,rfl,(Same.new hp1).seq hS,λp2 hp2=>?_⟩⟩⟩;rw [hms] at *;have s1:=Same.new (o:=.lst [V.int c0,V.int 5]) hp1;have s2:=Same.new (o:=.lst (ms.map V.int)) hp2;refine ⟨p1,p2,_,_,rfl,rfl,s2 _ _ Zab,Zab,Jcd (Zau (by rw [Jab]; show 2 + ms.length<=1000; omega)),λp3 hp3=>?_⟩;have hz:[V.int c0,V.int 5] ++ ms.map V.int = (c0 :: 5 :: ms).map V.int:=rfl;rw [hz];have s3:=Same.new (o:=.lst ((c0 :: 5 :: ms).map V.int)) hp3;have sP:=(s1.trans s2).trans s3;refine ⟨p3,rfl,⟨_,SqL.of Zab⟩,for_enm (xs:=(c0 :: 5 :: ms).map V.int) (λi σ H2=>∃ v1 v2 v3 v4 v5 v6 v7 v8 v9 v10 v11:Option V,σ = [some (.ref a),v1,v2,v3,v4,v5,v6,v7,v8,v9,v10,v11]/\H2 p3 = some (.lst ((c0 :: 5 :: ms).map V.int))/\H2 PL = some Zos)
   ⟨none,none,none,none,none,none,none,none,none,none,none,rfl,Zab,sP _ _ hPL⟩ (λi σ H2 _ ⟨_,_,_,_,_,_,_,_,_,_,_,_,sH,_⟩=>SqL.of sH) ?_ ?_⟩
  .rintro i x pp σ H2' hi hpp ⟨v1,v2,v3,v4,v5,v6,v7,v8,v9,v10,v11,rfl,h2',hP2⟩;obtain ⟨c,rfl⟩:∃ c:Int,x = .int c:=by
    rw [Jad] at hi;cases e:(c0 :: 5 :: ms)[i]? with
    | none=>rw [e] at hi; cases hi
    | some c=>rw [e] at hi; cases hi; exact ⟨c,rfl⟩
   have spp:=Same.new (o:=.tup [.int i,.int c]) hpp;have hpt:upd H2' pp (.tup [.int i,.int c]) pp = some (.tup [.int i,.int c]):=Zab;have h2:=spp _ _ h2';have hP2':=spp _ _ hP2;generalize upd H2' pp (.tup [.int i,.int c]) = H2 at *;refine ⟨pp,_,rfl,SqT.of hpt,rfl,_,_,rfl,_,_,rfl,rfl,?_⟩;refine cut5 λX hX=>?_;have aft:∀ (Dn:Ends) (m p:Int) (x dx l:Addr) (w7 w8 w9 w10 w11:Option V) (H5:Hp),(∀ σ H6,(∃ u1 u2 u3 u4 u5 u6 u7 u8 u9 u10 u11:Option V,σ = [some (.ref a),u1,u2,u3,u4,u5,u6,u7,u8,u9,u10,u11]/\H6 p3 = some (.lst ((c0 :: 5 :: ms).map V.int))/\H6 PL = some Zos)->Dn.nx σ H6)->GroundP p->Bag H5 l->H5 x = some (.ins C dx (Zu3 p))->H5 p3 = some (.lst ((c0 :: 5 :: ms).map V.int))->H5 PL = some Zos->p3 ≠ l->PL ≠ l->x ≠ l->4<=m->m<=24->(p = 0->m<=4)->X Dn [some (.ref a),some (.int i),some (.int c),some (.ref l),some (.int p),some (.ref x),some (.int m),w7,w8,w9,w10,w11] H5:=by
    intro Dn m p x dx l w7 w8 w9 w10 w11 H5 hDn hp b5 hx5 h35 hP5 n3 nP nx m0 m1 m4;subst hX;refine Zfv λX hX=>?_;walk_at "wp";refine b5.draw (by omega) (by omega) λhh H6 h0 h1 e6 b6=>?_;subst hX;refine Zfv λX hX=>?_;walk_at "wp";refine ⟨l,p,hh,hh,rfl,b6,hp,h0,by omega,h0,by omega,λt r rs H7 e7 b7 nt nr nrs tb=>?_⟩;obtain ⟨M,tq⟩:=Zj0 h0 h0 tb;have e57:Ext l H5 H7:=λb o n e=>e7 _ _ n (e6 _ _ n e);refine ⟨x,t,r,rs,p,hh.toNat,M,rfl,⟨dx,e57 _ _ nx hx5⟩,hp,tq,oz129 m1 h1,λz=>by have:=m4 z; omega,e57 _ _ nP hP5,λH8 s8=>⟨true,rfl,Znu ?_⟩⟩;subst hX;refine Zfv λX hX=>?_;walk_at "wp";have Zfy:∀ {c A B:Prop} [Decidable c],¬ c->B->if c then A else B:=λhc h=>by rw [if_neg hc]; exact h
    refine ⟨_,_,⟨rfl,rfl⟩,?_⟩;have b8:=b7.same s8;refine b8.draw (by split <;> omega) (by split <;> omega) λd H9 d0 d1 e9 b9=>?_;have d6:d<=6:=by split at d1 <;> omega
    have dp:p = 0->d<=4:=λz=>by have:=m4 z; split at d1 <;> omega
    refine ⟨l,p,hh,d,rfl,b9,hp,h0,by omega,d0,by omega,λta ra rsa Ha ea ba nta nra nrsa tba=>?_⟩;obtain ⟨MA,qA⟩:=Zj0 h0 d0 tba;obtain ⟨oA1,oA2⟩:=b9.off nra nrsa;subst hX;refine Zfv λX hX=>?_;walk_at "wp";refine ⟨_,SqT.of tba.tup,_,rfl,l,p,d,1,rfl,ba,hp,d0,by omega,by decide,by decide,λtb2 rb rsb Hb eb bb ntb nrb nrsb tbb=>?_⟩;obtain ⟨MB,qB⟩:=Zj0 d0 (by decide) tbb;obtain ⟨oB1,oB2⟩:=ba.off nrb nrsb;have qA':=qA.ext ba eb oA1 oA2;subst hX;refine Zfv λX hX=>?_;walk_at "wp";refine ⟨p,_,_,ta,ra,rsa,MA,rfl,qA'.tv,by rw [qA.hl]; omega,λtc rc rsc Hc sc nwc tbc=>?_⟩;refine ⟨p,_,_,tb2,rb,rsb,MB,rfl,(qB.same sc).tv,by rw [qB.hl]; omega,λtd rd rsd Hd sd nwd tbd=>?_⟩;have e5b:Ext l H5 Hb:=λb o n e=>eb _ _ n (ea _ _ n (e9 _ _ n (s8 _ _ (e57 _ _ n e))));have sbd:=sc.trans sd;have lim:(d.toNat + 1) * 55 + (d.toNat + 1) * 55 + 5<=NB:=Jat (show _<=25 * 55 + 25 * 55 + 5 by omega) (by decide);refine ⟨x,tc,rc,td,rd,rsc,rsd,p,hh.toNat,d.toNat,1,55,55,MA,MB,rfl,⟨dx,sbd _ _ (e5b _ _ nx hx5)⟩,hp,⟨tbc.same sd,qA.hl,qA.hw,qA.gd⟩,⟨tbd,qB.hl,qB.hw,qB.gd⟩,oz129 m1 h1,by omega,by decide,by decide,by decide,lim,λte re rse He se nwe tbe=>?_⟩;clear lim;have sbe:=sbd.trans se;subst hX;refine Zfv λX hX=>?_;walk_at "wp";refine ⟨ta,ra,tb2,rb,rsa,rsb,p,hh.toNat,d.toNat,1,55,55,MA,MB,rfl,hp,qA'.same sbe,qB.same sbe,by omega,by omega,by decide,by omega,λtf rf rsf Hf sf tvf=>?_⟩;have sbf:=sbe.trans sf;refine ⟨tf,rfl,_,SqT.of (tbe.same sf).tv.tup,_,SqT.of tvf.tup,_,TabV.items (tbe.same sf).tv tvf,Zfy (by rw [Zcr]; decide) ?_⟩;have bf:=bb.same sbf;subst hX;have ke:7 + d.toNat * (55 + 55 + 8)<=KC:=by show 7 + d.toNat * (55 + 55 + 8)<=715; omega
    refine ⟨_,rfl,_,rfl,_,rfl,_,rfl,l,p,hh,1,rfl,bf,hp,h0,by omega,by decide,by decide,λtg rg rsg Hg eg bg ntg nrg nrsg tbg=>⟨by show 2<=sizeLine; decide,λTU hTU=>?_⟩⟩;have sT:=Same.new (o:=.tup [V.ref te,V.ref tg]) hTU;have hTT:upd Hg TU (.tup [V.ref te,V.ref tg]) TU = some (.tup [V.ref te,V.ref tg]):=Zab;have e5g:Ext l H5 Hg:=λb o n e=>eg _ _ n (sbf _ _ (e5b _ _ n e));have AG:=(((qA'.same sbf).ext bf eg oA1 oA2).same sT).up (show 55<=KC by decide);obtain ⟨oE1,oE2⟩:=(bb.same sbd).off nwe.r nwe.rs;have EG:=(((tbe.same sf).ext bf eg oE1 oE2).same sT).up ke;obtain ⟨MG,qG⟩:=Zj0 h0 (by decide) tbg;have GG:=(qG.same sT).up (show 55<=KC by decide);have hxT:=sT _ _ (e5g _ _ nx hx5);have hPT:=sT _ _ (e5g _ _ nP hP5);have h3T:=sT _ _ (e5g _ _ n3 h35);generalize upd Hg TU (.tup [V.ref te,V.ref tg]) = HT at *;refine ⟨TU,rfl,⟨_,SqT.of hTT⟩,for_tup (xs:=[V.ref te,V.ref tg]) (λj σ H15=>∃ w12:Option V,σ = [some (V.ref a),some (V.int i),some (V.int c),some (V.ref l),some (V.int p),some (V.ref x),some (V.int m),some (V.int hh),some (V.ref ta),some (V.ref tb2),some (V.ref te),w12]/\Same HT H15) ⟨_,rfl,Same.refl _⟩ (λj σ H15 _ ⟨_,_,s15⟩=>SqT.of (s15 _ _ hTT)) ?_ ?_⟩
    .rintro j y σ H15 hy ⟨w12,rfl,s15⟩;walk_at "wp";have key:∀ (tk rk:Addr) (rsk:List Addr) (B:Mv),TabB HT p KC hh.toNat 1 tk rk rsk B->y = .ref tk->spLR C PL [V.ref x,V.int p,V.ref ta,y] H15 (λx H1=>∃ c,x = V.bl c/\if (!c) = true then Dn.rt (V.bl false) H1 else Same HT H1) E0:=λtk rk rsk B tB' ey=>by
      subst ey;exact ⟨x,ta,ra,tk,rk,rsa,rsk,p,hh.toNat,d.toNat,MA,B,rfl,⟨dx,s15 _ _ hxT⟩,hp,AG.same s15,tB'.same s15,oz129 m1 h1,by omega,λz=>by have:=dp z; omega,s15 _ _ hPT,λH16 s16=>⟨true,rfl,Znu (s15.trans s16)⟩⟩
     match j,hy with
     | 0,hy=>cases hy; exact key te re rse _ EG rfl
     | 1,hy=>cases hy; exact key tg rg rsg _ GG rfl
     | j + 2,hy=>cases hy
    .rintro σ H15 ⟨w12,rfl,s15⟩;exact hDn _ _ ⟨_,_,_,_,_,_,_,_,_,_,_,rfl,s15 _ _ h3T,s15 _ _ hPT⟩
   walk_at "wp";refine ⟨c,rfl,λl xa xb hl0 xb0 xb1=>?_⟩;have b3:Bag (upd H2 l (BagV xa xb)) l:=Bag.set xb0 xb1;have sl:=Same.new (o:=BagV xa xb) hl0;have n3:p3 ≠ l:=Zaj h2 hl0;have nP:PL ≠ l:=Zaj hP2' hl0;refine ⟨l,rfl,b3,λp H4 e4 b4 hp=>?_⟩;have h4':=e4 _ _ n3 (sl _ _ h2);have hP4:=e4 _ _ nP (sl _ _ hP2');refine λx dx hx hdx ndx=>?_;have fx1:(upd H4 dx (.own x)) x = none:=by rw [Zal ndx.symm]; exact hx
   have s89:Same H4 (upd (upd H4 dx (.own x)) x (.ins C dx [])):=(Same.new hdx).trans (Same.new fx1);refine ⟨x,dx,p,rfl,Zab,hp,λH9 ex9 hx9=>⟨rfl,?_⟩⟩;have s9:Same H4 H9:=Same.thru s89 hx ex9;have b9:=b4.same s9;have nx:x ≠ l:=by obtain ⟨xa',xb',h,_⟩:=b4; exact λz=>by rw [z,h] at hx; cases hx
   refine ⟨l,p,rfl,b9,hp,λm H10 e10 b10 m0 m1 m4=>?_⟩;refine Zdz (λ_=>⟨_,_,⟨rfl,rfl⟩,?_⟩) (λ_=>aft _ m p x dx l v7 v8 v9 v10 v11 H10 (λσ H6 h=>h) hp b10 (e10 _ _ nx hx9) (e10 _ _ n3 (s9 _ _ h4')) (e10 _ _ nP (s9 _ _ hP4)) n3 nP nx m0 m1 m4);exact aft _ _ p x dx l v7 v8 v9 v10 v11 H10 (λσ H6 h=>h) hp b10 (e10 _ _ nx hx9) (e10 _ _ n3 (s9 _ _ h4')) (e10 _ _ nP (s9 _ _ hP4)) n3 nP nx (by split <;> omega) (by split <;> omega) (λz=>by have:=m4 z; split <;> omega)
  .rintro σ H2 ⟨v1,v2,v3,v4,v5,v6,v7,v8,v9,v10,v11,rfl,h2,hP2⟩;walk_at "wp";exact q H2 hP2
end
end Pf
set_option maxHeartbeats 4000000
namespace Pf
open PySem L2 PyProof.Rows
open PySem.W (nsIn codeIn keepIn fnOf findIn isFn mg_of mg_none_of plainGet hasDictIn plainOver makesIn)
theorem ex1 {us:List Value} (hl:us.length = 1):∃ a0,us = [a0]:=match us,hl with | [a0],_=>⟨a0,rfl⟩
theorem ex2 {us:List Value} (hl:us.length = 2):∃ a0 a1,us = [a0,a1]:=match us,hl with | [a0,a1],_=>⟨a0,a1,rfl⟩
theorem ex3 {us:List Value} (hl:us.length = 3):∃ a0 a1 a2,us = [a0,a1,a2]:=match us,hl with | [a0,a1,a2],_=>⟨a0,a1,a2,rfl⟩
theorem ex4 {us:List Value} (hl:us.length = 4):∃ a0 a1 a2 a3,us = [a0,a1,a2,a3]:=match us,hl with | [a0,a1,a2,a3],_=>⟨a0,a1,a2,a3,rfl⟩
theorem all_mk {l:PySem.W.OpenLaw} {w:World} {K:PySem.W.Frag} {h:Heap} {mg:Str->Option Value} {fa C:Addr} {t1 t2 t3:Tok} (hpt:l.prog.given.tree = none) {cL PL:Addr} (X:K.In h) (G:h.Ns mainGlobals mg) (hfa:mg "law" = some (.ref fa))
  {f1 f2 f3 f4 f5 f6 f7 f8 f9 f10 f11 f12 f13 f14 f15 f16 f17 f18 f19 f20 f21 f22 f23 f24 f25 f26 f27 f28 f29 f30 f31 f32 f33 f34 f35 f36 f37 f38 f39 f40 f41 f42 f43 f44 f45 f46 f47 f48 f49 f50 f51 f52 f53 f54:Addr} {od1 an1 od2 an2 od3 an3 od4 an4 od5 an5 od6 an6 od7 an7 od8 an8 od9 an9 od10 an10 od11 an11 od12 an12 od13 an13 od14 an14 od15 an15 od16 an16 od17 an17 od18 an18 od19 an19 od20 an20 od21 an21 od22 an22 od23 an23 od24 an24 od25 an25 od26 an26 od27 an27 od28 an28 od29 an29 od30 an30 od31 an31 od32 an32 od33 an33 od34 an34 od35 an35 od36 an36 od37 an37 od38 an38 od39 an39 od40 an40 od41 an41 od42 an42 od43 an43 od44 an44 od45 an45 od46 an46 od47 an47 od48 an48 od49 an49 od50 an50 od51 an51 od52 an52 od53 an53 od54 an54:Option Addr} {sl1 sl2 sl3 sl4 sl5 sl6 sl7 sl8 sl9 sl10 sl11 sl12 sl13 sl14 sl15 sl16 sl17 sl18 sl19 sl20 sl21 sl22 sl23 sl24 sl25 sl26 sl27 sl28 sl29 sl30 sl31 sl32 sl33 sl34 sl35 sl36 sl37 sl38 sl39 sl40 sl41 sl42 sl43 sl44 sl45 sl46 sl47 sl48 sl49 sl50 sl51 sl52 sl53 sl54:Array (Option Value)} {oc1 kV1 dc1 pm1 ct1 cd1 oc2 kV2 dc2 pm2 ct2 cd2 oc3 kV3 dc3 pm3 ct3 cd3 oc4 kV4 dc4 pm4 ct4 cd4 oc5 kV5 dc5 pm5 ct5 cd5 oc6 kV6 dc6 pm6 ct6 cd6 oc7 kV7 dc7 pm7 ct7 cd7 oc8 kV8 dc8 pm8 ct8 cd8 oc9 kV9 dc9 pm9 ct9 cd9 oc10 kV10 dc10 pm10 ct10 oc11 kV11 dc11 pm11 ct11 cd11 oc12 kV12 dc12 pm12 ct12 cd12 oc13 kV13 dc13 pm13 ct13 cd13 oc14 kV14 dc14 pm14 ct14 cd14 oc15 kV15 dc15 pm15 ct15 cd15 oc16 kV16 dc16 pm16 ct16 cd16 oc17 kV17 dc17 pm17 ct17 cd17 oc18 kV18 dc18 pm18 ct18 cd18 oc19 kV19 dc19 pm19 ct19 cd19 oc20 kV20 dc20 pm20 ct20 cd20 oc21 kV21 dc21 pm21 ct21 cd21 oc22 kV22 dc22 pm22 ct22 cd22 oc23 kV23 dc23 pm23 ct23 cd23 oc24 kV24 dc24 pm24 ct24 cd24 oc25 kV25 dc25 pm25 ct25 cd25 oc26 kV26 dc26 pm26 ct26 cd26 oc27 kV27 dc27 pm27 ct27 cd27 oc28 kV28 dc28 pm28 ct28 cd28 oc29 kV29 dc29 pm29 ct29 cd29 oc30 kV30 dc30 pm30 ct30 cd30 oc31 kV31 dc31 pm31 ct31 cd31 oc32 kV32 dc32 pm32 ct32 cd32 oc33 kV33 dc33 pm33 ct33 cd33 oc34 kV34 dc34 pm34 ct34 cd34 oc35 kV35 dc35 pm35 ct35 cd35 oc36 kV36 dc36 pm36 ct36 cd36 oc37 kV37 dc37 pm37 ct37 cd37 oc38 kV38 dc38 pm38 ct38 cd38 oc39 kV39 dc39 pm39 ct39 cd39 oc40 kV40 dc40 pm40 ct40 cd40 oc41 kV41 dc41 pm41 ct41 cd41 oc42 kV42 dc42 pm42 ct42 cd42 oc43 kV43 dc43 pm43 ct43 cd43 oc44 kV44 dc44 pm44 ct44 cd44 oc45 kV45 dc45 pm45 ct45 cd45 oc46 kV46 dc46 pm46 ct46 cd46 oc47 kV47 dc47 pm47 ct47 cd47 oc48 kV48 dc48 pm48 ct48 cd48 oc49 kV49 dc49 pm49 ct49 cd49 oc50 kV50 dc50 pm50 ct50 cd50 oc51 kV51 dc51 pm51 ct51 cd51 oc52 kV52 dc52 pm52 ct52 cd52 oc53 kV53 dc53 pm53 ct53 cd53 oc54 kV54 dc54 pm54 ct54 cd54:Value}
  {D54:Addr} {doc54:Value} {dod54:Option Addr} {dosl54:Array (Option Value)} {dn54:Nat} {dt54:Tok}
  (a1:nsIn K mainGlobals "is_whole" = some (some (.ref f1)))
  (l1:K.lookup f1 = some ⟨oc1,od1,.func (fnOf "is_whole" "is_whole" (Zam Zdr) (Zak Zdr) (Zad Zdr) .none kV1 dc1 pm1 an1 cd1 ct1),sl1⟩)
  (c1:codeIn K cd1 "is_whole" = true)
  (k1:keepIn K (.ref f1) = true)
  (a2:nsIn K mainGlobals "common_divisor" = some (some (.ref f2)))
  (l2:K.lookup f2 = some ⟨oc2,od2,.func (fnOf "common_divisor" "common_divisor" (Zam Zbh) (Zak Zbh) (Zad Zbh) .none kV2 dc2 pm2 an2 cd2 ct2),sl2⟩)
  (c2:codeIn K cd2 "common_divisor" = true)
  (k2:keepIn K (.ref f2) = true)
  (a3:nsIn K mainGlobals "not_both_long" = some (some (.ref f3)))
  (l3:K.lookup f3 = some ⟨oc3,od3,.func (fnOf "not_both_long" "not_both_long" (Zam Zbj) (Zak Zbj) (Zad Zbj) .none kV3 dc3 pm3 an3 cd3 ct3),sl3⟩)
  (c3:codeIn K cd3 "not_both_long" = true)
  (k3:keepIn K (.ref f3) = true)
  (a4:nsIn K mainGlobals "shortened" = some (some (.ref f4)))
  (l4:K.lookup f4 = some ⟨oc4,od4,.func (fnOf "shortened" "shortened" (Zam Zcz) (Zak Zcz) (Zad Zcz) .none kV4 dc4 pm4 an4 cd4 ct4),sl4⟩)
  (c4:codeIn K cd4 "shortened" = true)
  (k4:keepIn K (.ref f4) = true)
  (a5:nsIn K mainGlobals "leading_steps" = some (some (.ref f5)))
  (l5:K.lookup f5 = some ⟨oc5,od5,.func (fnOf "leading_steps" "leading_steps" (Zam Zbk) (Zak Zbk) (Zad Zbk) .none kV5 dc5 pm5 an5 cd5 ct5),sl5⟩)
  (c5:codeIn K cd5 "leading_steps" = true)
  (k5:keepIn K (.ref f5) = true)
  (a6:nsIn K mainGlobals "common_multiple" = some (some (.ref f6)))
  (l6:K.lookup f6 = some ⟨oc6,od6,.func (fnOf "common_multiple" "common_multiple" (Zam Zbf) (Zak Zbf) (Zad Zbf) .none kV6 dc6 pm6 an6 cd6 ct6),sl6⟩)
  (c6:codeIn K cd6 "common_multiple" = true)
  (k6:keepIn K (.ref f6) = true)
  (a7:nsIn K mainGlobals "whole_row" = some (some (.ref f7)))
  (l7:K.lookup f7 = some ⟨oc7,od7,.func (fnOf "whole_row" "whole_row" (Zam Zcy) (Zak Zcy) (Zad Zcy) .none kV7 dc7 pm7 an7 cd7 ct7),sl7⟩)
  (c7:codeIn K cd7 "whole_row" = true)
  (k7:keepIn K (.ref f7) = true)
  (a8:nsIn K mainGlobals "tidied" = some (some (.ref f8)))
  (l8:K.lookup f8 = some ⟨oc8,od8,.func (fnOf "tidied" "tidied" (Zam Zfp) (Zak Zfp) (Zad Zfp) .none kV8 dc8 pm8 an8 cd8 ct8),sl8⟩)
  (c8:codeIn K cd8 "tidied" = true)
  (k8:keepIn K (.ref f8) = true)
  (a9:nsIn K mainGlobals "cleared" = some (some (.ref f9)))
  (l9:K.lookup f9 = some ⟨oc9,od9,.func (fnOf "cleared" "cleared" (Zam Zek) (Zak Zek) (Zad Zek) .none kV9 dc9 pm9 an9 cd9 ct9),sl9⟩)
  (c9:codeIn K cd9 "cleared" = true)
  (k9:keepIn K (.ref f9) = true)
  (a10:nsIn K mainGlobals "leading_row" = some (some (.ref f10)))
  (l10:K.lookup f10 = some ⟨oc10,od10,.func (fnOf "leading_row" "leading_row" (Zam Zbr) (Zak Zbr) (Zad Zbr) .none kV10 dc10 pm10 an10 (.ref cL) ct10),sl10⟩)
  (c10:codeIn K (.ref cL) "leading_row" = true)
  (k10:keepIn K (.ref f10) = true)
  (a11:nsIn K mainGlobals "swept" = some (some (.ref f11)))
  (l11:K.lookup f11 = some ⟨oc11,od11,.func (fnOf "swept" "swept" (Zam Zgv) (Zak Zgv) (Zad Zgv) .none kV11 dc11 pm11 an11 cd11 ct11),sl11⟩)
  (c11:codeIn K cd11 "swept" = true)
  (k11:keepIn K (.ref f11) = true)
  (a12:nsIn K mainGlobals "reduced_rows" = some (some (.ref f12)))
  (l12:K.lookup f12 = some ⟨oc12,od12,.func (fnOf "reduced_rows" "reduced_rows" (Zam Zby) (Zak Zby) (Zad Zby) .none kV12 dc12 pm12 an12 cd12 ct12),sl12⟩)
  (c12:codeIn K cd12 "reduced_rows" = true)
  (k12:keepIn K (.ref f12) = true)
  (a13:nsIn K mainGlobals "plain" = some (some (.ref f13)))
  (l13:K.lookup f13 = some ⟨oc13,od13,.func (fnOf "plain" "plain" (Zam Zgw) (Zak Zgw) (Zad Zgw) .none kV13 dc13 pm13 an13 cd13 ct13),sl13⟩)
  (c13:codeIn K cd13 "plain" = true)
  (k13:keepIn K (.ref f13) = true)
  (a14:nsIn K mainGlobals "noughts" = some (some (.ref f14)))
  (l14:K.lookup f14 = some ⟨oc14,od14,.func (fnOf "noughts" "noughts" (Zam Zef) (Zak Zef) (Zad Zef) .none kV14 dc14 pm14 an14 cd14 ct14),sl14⟩)
  (c14:codeIn K cd14 "noughts" = true)
  (k14:keepIn K (.ref f14) = true)
  (a15:nsIn K mainGlobals "side_by_side" = some (some (.ref f15)))
  (l15:K.lookup f15 = some ⟨oc15,od15,.func (fnOf "side_by_side" "side_by_side" (Zam Zbx) (Zak Zbx) (Zad Zbx) .none kV15 dc15 pm15 an15 cd15 ct15),sl15⟩)
  (c15:codeIn K cd15 "side_by_side" = true)
  (k15:keepIn K (.ref f15) = true)
  (a16:nsIn K mainGlobals "reduced" = some (some (.ref f16)))
  (l16:K.lookup f16 = some ⟨oc16,od16,.func (fnOf "reduced" "reduced" (Zam Zed) (Zak Zed) (Zad Zed) .none kV16 dc16 pm16 an16 cd16 ct16),sl16⟩)
  (c16:codeIn K cd16 "reduced" = true)
  (k16:keepIn K (.ref f16) = true)
  (a17:nsIn K mainGlobals "is_prime" = some (some (.ref f17)))
  (l17:K.lookup f17 = some ⟨oc17,od17,.func (fnOf "is_prime" "is_prime" (Zam Zds) (Zak Zds) (Zad Zds) .none kV17 dc17 pm17 an17 cd17 ct17),sl17⟩)
  (c17:codeIn K cd17 "is_prime" = true)
  (k17:keepIn K (.ref f17) = true)
  (a18:nsIn K mainGlobals "tells_ground" = some (some (.ref f18)))
  (l18:K.lookup f18 = some ⟨oc18,od18,.func (fnOf "tells_ground" "tells_ground" (Zam Zbw) (Zak Zbw) (Zad Zbw) .none kV18 dc18 pm18 an18 cd18 ct18),sl18⟩)
  (c18:codeIn K cd18 "tells_ground" = true)
  (k18:keepIn K (.ref f18) = true)
  (a19:nsIn K mainGlobals "fraction" = some (some (.ref f19)))
  (l19:K.lookup f19 = some ⟨oc19,od19,.func (fnOf "fraction" "fraction" (Zam Zdt) (Zak Zdt) (Zad Zdt) .none kV19 dc19 pm19 an19 cd19 ct19),sl19⟩)
  (c19:codeIn K cd19 "fraction" = true)
  (k19:keepIn K (.ref f19) = true)
  (a20:nsIn K mainGlobals "inverse" = some (some (.ref f20)))
  (l20:K.lookup f20 = some ⟨oc20,od20,.func (fnOf "inverse" "inverse" (Zam Zej) (Zak Zej) (Zad Zej) .none kV20 dc20 pm20 an20 cd20 ct20),sl20⟩)
  (c20:codeIn K cd20 "inverse" = true)
  (k20:keepIn K (.ref f20) = true)
  (a21:nsIn K mainGlobals "rest_of" = some (some (.ref f21)))
  (l21:K.lookup f21 = some ⟨oc21,od21,.func (fnOf "rest_of" "rest_of" (Zam Zec) (Zak Zec) (Zad Zec) .none kV21 dc21 pm21 an21 cd21 ct21),sl21⟩)
  (c21:codeIn K cd21 "rest_of" = true)
  (k21:keepIn K (.ref f21) = true)
  (a22:nsIn K mainGlobals "_law_cell" = some (some (.ref f22)))
  (l22:K.lookup f22 = some ⟨oc22,od22,.func (fnOf "_law_cell" "_law_cell" (Zam Zdp) (Zak Zdp) (Zad Zdp) .none kV22 dc22 pm22 an22 cd22 ct22),sl22⟩)
  (c22:codeIn K cd22 "_law_cell" = true)
  (k22:keepIn K (.ref f22) = true)
  (a23:nsIn K mainGlobals "_law_bag" = some (some (.ref f23)))
  (l23:K.lookup f23 = some ⟨oc23,od23,.func (fnOf "_law_bag" "_law_bag" (Zam Zei) (Zak Zei) (Zad Zei) .none kV23 dc23 pm23 an23 cd23 ct23),sl23⟩)
  (c23:codeIn K cd23 "_law_bag" = true)
  (k23:keepIn K (.ref f23) = true)
  (a24:nsIn K mainGlobals "_law_draw" = some (some (.ref f24)))
  (l24:K.lookup f24 = some ⟨oc24,od24,.func (fnOf "_law_draw" "_law_draw" (Zam Zdn) (Zak Zdn) (Zad Zdn) .none kV24 dc24 pm24 an24 cd24 ct24),sl24⟩)
  (c24:codeIn K cd24 "_law_draw" = true)
  (k24:keepIn K (.ref f24) = true)
  (a25:nsIn K mainGlobals "_law_gcd" = some (some (.ref f25)))
  (l25:K.lookup f25 = some ⟨oc25,od25,.func (fnOf "_law_gcd" "_law_gcd" (Zam Zeh) (Zak Zeh) (Zad Zeh) .none kV25 dc25 pm25 an25 cd25 ct25),sl25⟩)
  (c25:codeIn K cd25 "_law_gcd" = true)
  (k25:keepIn K (.ref f25) = true)
  (a26:nsIn K mainGlobals "_law_lowest" = some (some (.ref f26)))
  (l26:K.lookup f26 = some ⟨oc26,od26,.func (fnOf "_law_lowest" "_law_lowest" (Zam Zbq) (Zak Zbq) (Zad Zbq) .none kV26 dc26 pm26 an26 cd26 ct26),sl26⟩)
  (c26:codeIn K cd26 "_law_lowest" = true)
  (k26:keepIn K (.ref f26) = true)
  (a27:nsIn K mainGlobals "_law_whole" = some (some (.ref f27)))
  (l27:K.lookup f27 = some ⟨oc27,od27,.func (fnOf "_law_whole" "_law_whole" (Zam Zc1) (Zak Zc1) (Zad Zc1) .none kV27 dc27 pm27 an27 cd27 ct27),sl27⟩)
  (c27:codeIn K cd27 "_law_whole" = true)
  (k27:keepIn K (.ref f27) = true)
  (a28:nsIn K mainGlobals "_law_prime" = some (some (.ref f28)))
  (l28:K.lookup f28 = some ⟨oc28,od28,.func (fnOf "_law_prime" "_law_prime" (Zam Zc3) (Zak Zc3) (Zad Zc3) .none kV28 dc28 pm28 an28 cd28 ct28),sl28⟩)
  (c28:codeIn K cd28 "_law_prime" = true)
  (k28:keepIn K (.ref f28) = true)
  (a29:nsIn K mainGlobals "_law_number" = some (some (.ref f29)))
  (l29:K.lookup f29 = some ⟨oc29,od29,.func (fnOf "_law_number" "_law_number" (Zam Zcm) (Zak Zcm) (Zad Zcm) .none kV29 dc29 pm29 an29 cd29 ct29),sl29⟩)
  (c29:codeIn K cd29 "_law_number" = true)
  (k29:keepIn K (.ref f29) = true)
  (a30:nsIn K mainGlobals "_law_add" = some (some (.ref f30)))
  (l30:K.lookup f30 = some ⟨oc30,od30,.func (fnOf "_law_add" "_law_add" (Zam Zdw) (Zak Zdw) (Zad Zdw) .none kV30 dc30 pm30 an30 cd30 ct30),sl30⟩)
  (c30:codeIn K cd30 "_law_add" = true)
  (k30:keepIn K (.ref f30) = true)
  (a31:nsIn K mainGlobals "_law_mul" = some (some (.ref f31)))
  (l31:K.lookup f31 = some ⟨oc31,od31,.func (fnOf "_law_mul" "_law_mul" (Zam Zdv) (Zak Zdv) (Zad Zdv) .none kV31 dc31 pm31 an31 cd31 ct31),sl31⟩)
  (c31:codeIn K cd31 "_law_mul" = true)
  (k31:keepIn K (.ref f31) = true)
  (a32:nsIn K mainGlobals "_law_int" = some (some (.ref f32)))
  (l32:K.lookup f32 = some ⟨oc32,od32,.func (fnOf "_law_int" "_law_int" (Zam Zeg) (Zak Zeg) (Zad Zeg) .none kV32 dc32 pm32 an32 cd32 ct32),sl32⟩)
  (c32:codeIn K cd32 "_law_int" = true)
  (k32:keepIn K (.ref f32) = true)
  (a33:nsIn K mainGlobals "_law_back" = some (some (.ref f33)))
  (l33:K.lookup f33 = some ⟨oc33,od33,.func (fnOf "_law_back" "_law_back" (Zam Zdq) (Zak Zdq) (Zad Zdq) .none kV33 dc33 pm33 an33 cd33 ct33),sl33⟩)
  (c33:codeIn K cd33 "_law_back" = true)
  (k33:keepIn K (.ref f33) = true)
  (a34:nsIn K mainGlobals "_law_rows" = some (some (.ref f34)))
  (l34:K.lookup f34 = some ⟨oc34,od34,.func (fnOf "_law_rows" "_law_rows" (Zam Zdk) (Zak Zdk) (Zad Zdk) .none kV34 dc34 pm34 an34 cd34 ct34),sl34⟩)
  (c34:codeIn K cd34 "_law_rows" = true)
  (k34:keepIn K (.ref f34) = true)
  (a35:nsIn K mainGlobals "_law_table" = some (some (.ref f35)))
  (l35:K.lookup f35 = some ⟨oc35,od35,.func (fnOf "_law_table" "_law_table" (Zam Zc2) (Zak Zc2) (Zad Zc2) .none kV35 dc35 pm35 an35 cd35 ct35),sl35⟩)
  (c35:codeIn K cd35 "_law_table" = true)
  (k35:keepIn K (.ref f35) = true)
  (a36:nsIn K mainGlobals "_law_copy" = some (some (.ref f36)))
  (l36:K.lookup f36 = some ⟨oc36,od36,.func (fnOf "_law_copy" "_law_copy" (Zam Zdo) (Zak Zdo) (Zad Zdo) .none kV36 dc36 pm36 an36 cd36 ct36),sl36⟩)
  (c36:codeIn K cd36 "_law_copy" = true)
  (k36:keepIn K (.ref f36) = true)
  (a37:nsIn K mainGlobals "_law_product" = some (some (.ref f37)))
  (l37:K.lookup f37 = some ⟨oc37,od37,.func (fnOf "_law_product" "_law_product" (Zam Zb8) (Zak Zb8) (Zad Zb8) .none kV37 dc37 pm37 an37 cd37 ct37),sl37⟩)
  (c37:codeIn K cd37 "_law_product" = true)
  (k37:keepIn K (.ref f37) = true)
  (a38:nsIn K mainGlobals "_law_reduced" = some (some (.ref f38)))
  (l38:K.lookup f38 = some ⟨oc38,od38,.func (fnOf "_law_reduced" "_law_reduced" (Zam Zb7) (Zak Zb7) (Zad Zb7) .none kV38 dc38 pm38 an38 cd38 ct38),sl38⟩)
  (c38:codeIn K cd38 "_law_reduced" = true)
  (k38:keepIn K (.ref f38) = true)
  (a39:nsIn K mainGlobals "law" = some (some (.ref f39)))
  (l39:K.lookup f39 = some ⟨oc39,od39,.func (fnOf "law" "law" (Zam Zj4) (Zak Zj4) (Zad Zj4) .none kV39 dc39 pm39 an39 cd39 ct39),sl39⟩)
  (c39:codeIn K cd39 "law" = true)
  (k39:keepIn K (.ref f39) = true)
  (a40:nsIn K mainGlobals "product" = some (some (.ref f40)))
  (l40:K.lookup f40 = some ⟨oc40,od40,.func (fnOf "product" "product" (Zam Zee) (Zak Zee) (Zad Zee) .none kV40 dc40 pm40 an40 cd40 ct40),sl40⟩)
  (c40:codeIn K cd40 "product" = true)
  (k40:keepIn K (.ref f40) = true)
  (a41:nsIn K mainGlobals "row_times" = some (some (.ref f41)))
  (l41:K.lookup f41 = some ⟨oc41,od41,.func (fnOf "row_times" "row_times" (Zam Zc0) (Zak Zc0) (Zad Zc0) .none kV41 dc41 pm41 an41 cd41 ct41),sl41⟩)
  (c41:codeIn K cd41 "row_times" = true)
  (k41:keepIn K (.ref f41) = true)
  (a42:nsIn K mainGlobals "turned_about" = some (some (.ref f42)))
  (l42:K.lookup f42 = some ⟨oc42,od42,.func (fnOf "turned_about" "turned_about" (Zam Zbv) (Zak Zbv) (Zad Zbv) .none kV42 dc42 pm42 an42 cd42 ct42),sl42⟩)
  (c42:codeIn K cd42 "turned_about" = true)
  (k42:keepIn K (.ref f42) = true)
  (a43:nsIn K mainGlobals "_law_pasted" = some (some (.ref f43)))
  (l43:K.lookup f43 = some ⟨oc43,od43,.func (fnOf "_law_pasted" "_law_pasted" (Zam Zcl) (Zak Zcl) (Zad Zcl) .none kV43 dc43 pm43 an43 cd43 ct43),sl43⟩)
  (c43:codeIn K cd43 "_law_pasted" = true)
  (k43:keepIn K (.ref f43) = true)
  (a44:nsIn K mainGlobals "back_of" = some (some (.ref f44)))
  (l44:K.lookup f44 = some ⟨oc44,od44,.func (fnOf "back_of" "back_of" (Zam Zel) (Zak Zel) (Zad Zel) .none kV44 dc44 pm44 an44 cd44 ct44),sl44⟩)
  (c44:codeIn K cd44 "back_of" = true)
  (k44:keepIn K (.ref f44) = true)
  (a45:nsIn K mainGlobals "led_to" = some (some (.ref f45)))
  (l45:K.lookup f45 = some ⟨oc45,od45,.func (fnOf "led_to" "led_to" (Zam Zfq) (Zak Zfq) (Zad Zfq) .none kV45 dc45 pm45 an45 cd45 ct45),sl45⟩)
  (c45:codeIn K cd45 "led_to" = true)
  (k45:keepIn K (.ref f45) = true)
  (a46:nsIn K mainGlobals "all_led_to" = some (some (.ref f46)))
  (l46:K.lookup f46 = some ⟨oc46,od46,.func (fnOf "all_led_to" "all_led_to" (Zam Zcn) (Zak Zcn) (Zad Zcn) .none kV46 dc46 pm46 an46 cd46 ct46),sl46⟩)
  (c46:codeIn K cd46 "all_led_to" = true)
  (k46:keepIn K (.ref f46) = true)
  (a47:nsIn K mainGlobals "_law_same" = some (some (.ref f47)))
  (l47:K.lookup f47 = some ⟨oc47,od47,.func (fnOf "_law_same" "_law_same" (Zam Zdj) (Zak Zdj) (Zad Zdj) .none kV47 dc47 pm47 an47 cd47 ct47),sl47⟩)
  (c47:codeIn K cd47 "_law_same" = true)
  (k47:keepIn K (.ref f47) = true)
  (a48:nsIn K mainGlobals "_law_good" = some (some (.ref f48)))
  (l48:K.lookup f48 = some ⟨oc48,od48,.func (fnOf "_law_good" "_law_good" (Zam Zdm) (Zak Zdm) (Zad Zdm) .none kV48 dc48 pm48 an48 cd48 ct48),sl48⟩)
  (c48:codeIn K cd48 "_law_good" = true)
  (k48:keepIn K (.ref f48) = true)
  (a49:nsIn K mainGlobals "_law_most" = some (some (.ref f49)))
  (l49:K.lookup f49 = some ⟨oc49,od49,.func (fnOf "_law_most" "_law_most" (Zam Zdl) (Zak Zdl) (Zad Zdl) .none kV49 dc49 pm49 an49 cd49 ct49),sl49⟩)
  (c49:codeIn K cd49 "_law_most" = true)
  (k49:keepIn K (.ref f49) = true)
  (a50:nsIn K mainGlobals "_law_plain" = some (some (.ref f50)))
  (l50:K.lookup f50 = some ⟨oc50,od50,.func (fnOf "_law_plain" "_law_plain" (Zam Zc4) (Zak Zc4) (Zad Zc4) .none kV50 dc50 pm50 an50 cd50 ct50),sl50⟩)
  (c50:codeIn K cd50 "_law_plain" = true)
  (k50:keepIn K (.ref f50) = true)
  (a51:nsIn K mainGlobals "_law_back_right" = some (some (.ref f51)))
  (l51:K.lookup f51 = some ⟨oc51,od51,.func (fnOf "_law_back_right" "_law_back_right" (Zam Zbg) (Zak Zbg) (Zad Zbg) .none kV51 dc51 pm51 an51 cd51 ct51),sl51⟩)
  (c51:codeIn K cd51 "_law_back_right" = true)
  (k51:keepIn K (.ref f51) = true)
  (a52:nsIn K mainGlobals "_law_led_right" = some (some (.ref f52)))
  (l52:K.lookup f52 = some ⟨oc52,od52,.func (fnOf "_law_led_right" "_law_led_right" (Zam Zbl) (Zak Zbl) (Zad Zbl) .none kV52 dc52 pm52 an52 cd52 ct52),sl52⟩)
  (c52:codeIn K cd52 "_law_led_right" = true)
  (k52:keepIn K (.ref f52) = true)
  (aC:nsIn K mainGlobals "Ground" = some (some (.ref C)))
  (a53:findIn K (.ref C) "__init__" = some (some (.ref f53)))
  (i53:isFn K (.ref f53) = true)
  (l53:K.lookup f53 = some ⟨oc53,od53,.func (fnOf "__init__" "Ground.__init__" (Zam Zb9) (Zak Zb9) (Zad Zb9) .none kV53 dc53 pm53 an53 cd53 ct53),sl53⟩)
  (c53:codeIn K cd53 "Ground.__init__" = true)
  (k53:keepIn K (.ref f53) = true)
  (a54:findIn K (.ref C) "number" = some (some (.ref f54)))
  (i54:isFn K (.ref f54) = true)
  (l54:K.lookup f54 = some ⟨oc54,od54,.func (fnOf "number" "Ground.number" (Zam Zax) (Zak Zax) (Zad Zax) (.ref D54) kV54 dc54 pm54 an54 cd54 ct54),sl54⟩)
  (dl54:K.lookup D54 = some ⟨doc54,dod54,.seq #[.int 1 dt54] dn54,dosl54⟩)
  (c54:codeIn K cd54 "Ground.number" = true)
  (k54:keepIn K (.ref f54) = true)
  (pg:plainGet K C Str.empty = true)
  (hd:hasDictIn K C = true)
  (po:plainOver K C = true)
  (sa:findIn K (.ref C) "__setattr__" = some (some (.builtin "object.__setattr__")))
  (mk:makesIn K C = true)
  (kc:keepIn K (.ref C) = true)
  (nP:findIn K (.ref C) "prime" = some none)
  (g1:nsIn K mainGlobals "LARGEST_PRIME" = some (some (.int 97 t1)))
  (g2:nsIn K mainGlobals "LONG" = some (some (.int 4000 t2)))
  (g3:nsIn K mainGlobals "LEADING" = some (some (.int 126 t3)))
  (z0:nsIn K mainGlobals "abs" = some none)
  (z1:nsIn K mainGlobals "all" = some none)
  (z2:nsIn K mainGlobals "isinstance" = some none)
  (z3:nsIn K mainGlobals "int" = some none)
  (z4:nsIn K mainGlobals "bool" = some none)
  (z5:nsIn K mainGlobals "tuple" = some none)
  (z6:nsIn K mainGlobals "range" = some none)
  (z7:nsIn K mainGlobals "len" = some none)
  (z8:nsIn K mainGlobals "list" = some none)
  (z9:nsIn K mainGlobals "zip" = some none)
  (z10:nsIn K mainGlobals "sum" = some none)
  (z11:nsIn K mainGlobals "enumerate" = some none)
  (z12:nsIn K mainGlobals "min" = some none)
  (z13:nsIn K mainGlobals "reversed" = some none)
  (z14:nsIn K mainGlobals "max" = some none)
  (z15:nsIn K mainGlobals "any" = some none)
  (hcL:hdIn K cL PL = true):
  ∃ fd:FuncData,(∀ (s:Shared) (v:Value),BindsTo s fd ⟨[v],[]⟩ [("_law_script",v)])/\∀ base:Heap,K.In base->base.Ns mainGlobals mg->FnOk l.prog w K mg base CX0 12 fa fd ["_law_script"] (Zsn K PL):=by
 have e:=hfa.symm.trans (mg_of X G a39);cases e;have T:Txt K mg C:=⟨⟨pg,hd,po,sa⟩,nP,mg_none_of X G z0,mg_none_of X G z1,mg_none_of X G z2,mg_none_of X G z3,mg_none_of X G z4,mg_none_of X G z5,mg_none_of X G z6,mg_none_of X G z7,mg_none_of X G z8,mg_none_of X G z9,mg_none_of X G z10,mg_none_of X G z11,mg_none_of X G z12,mg_none_of X G z13,mg_none_of X G z14,mg_none_of X G z15,⟨t1,mg_of X G g1⟩,⟨t2,mg_of X G g2⟩,⟨t3,mg_of X G g3⟩⟩
 have F1:=Zaw (st:=Zdr) l1 c1 k1;have b1:=F1.binds (ps:=["thing"]) λ_ _ _ _ _ _ us hl=>by obtain ⟨_,rfl⟩:=ex1 hl; rfl
 have F2:=Zaw (st:=Zbh) l2 c2 k2;have b2:=F2.binds (ps:=["one","other"]) λ_ _ _ _ _ _ us hl=>by obtain ⟨_,_,rfl⟩:=ex2 hl; rfl
 have F3:=Zaw (st:=Zbj) l3 c3 k3;have b3:=F3.binds (ps:=["one","other"]) λ_ _ _ _ _ _ us hl=>by obtain ⟨_,_,rfl⟩:=ex2 hl; rfl
 have F4:=Zaw (st:=Zcz) l4 c4 k4;have b4:=F4.binds (ps:=["one","other"]) λ_ _ _ _ _ _ us hl=>by obtain ⟨_,_,rfl⟩:=ex2 hl; rfl
 have F5:=Zaw (st:=Zbk) l5 c5 k5;have b5:=F5.binds (ps:=["one","other"]) λ_ _ _ _ _ _ us hl=>by obtain ⟨_,_,rfl⟩:=ex2 hl; rfl
 have F6:=Zaw (st:=Zbf) l6 c6 k6;have b6:=F6.binds (ps:=["one","other"]) λ_ _ _ _ _ _ us hl=>by obtain ⟨_,_,rfl⟩:=ex2 hl; rfl
 have F7:=Zaw (st:=Zcy) l7 c7 k7;have b7:=F7.binds (ps:=["ground","row"]) λ_ _ _ _ _ _ us hl=>by obtain ⟨_,_,rfl⟩:=ex2 hl; rfl
 have F8:=Zaw (st:=Zfp) l8 c8 k8;have b8:=F8.binds (ps:=["ground","row"]) λ_ _ _ _ _ _ us hl=>by obtain ⟨_,_,rfl⟩:=ex2 hl; rfl
 have F9:=Zaw (st:=Zek) l9 c9 k9;have b9:=F9.binds (ps:=["ground","row","lead","place"]) λ_ _ _ _ _ _ us hl=>by obtain ⟨_,_,_,_,rfl⟩:=ex4 hl; rfl
 have F10:FunC K "leading_row" "leading_row" Zbr f10 _ cL:=⟨⟨oc10,od10,kV10,dc10,pm10,an10,ct10,sl10,rfl,l10,c10⟩⟩
 have b10:=F10.binds (ps:=["rows","place"]) λ_ _ _ _ _ _ us hl=>by obtain ⟨_,_,rfl⟩:=ex2 hl; rfl
 have F11:=Zaw (st:=Zgv) l11 c11 k11;have b11:=F11.binds (ps:=["ground","rows","wide"]) λ_ _ _ _ _ _ us hl=>by obtain ⟨_,_,_,rfl⟩:=ex3 hl; rfl
 have F12:=Zaw (st:=Zby) l12 c12 k12;have b12:=F12.binds (ps:=["ground","rows","wide"]) λ_ _ _ _ _ _ us hl=>by obtain ⟨_,_,_,rfl⟩:=ex3 hl; rfl
 have F13:=Zaw (st:=Zgw) l13 c13 k13;have b13:=F13.binds (ps:=["ground","many"]) λ_ _ _ _ _ _ us hl=>by obtain ⟨_,_,rfl⟩:=ex2 hl; rfl
 have F14:=Zaw (st:=Zef) l14 c14 k14;have b14:=F14.binds (ps:=["ground","high","wide"]) λ_ _ _ _ _ _ us hl=>by obtain ⟨_,_,_,rfl⟩:=ex3 hl; rfl
 have F15:=Zaw (st:=Zbx) l15 c15 k15;have b15:=F15.binds (ps:=["ground","high","tables"]) λ_ _ _ _ _ _ us hl=>by obtain ⟨_,_,_,rfl⟩:=ex3 hl; rfl
 have F16:=Zaw (st:=Zed) l16 c16 k16;have b16:=F16.binds (ps:=["ground","table"]) λ_ _ _ _ _ _ us hl=>by obtain ⟨_,_,rfl⟩:=ex2 hl; rfl
 have F17:=Zaw (st:=Zds) l17 c17 k17;have b17:=F17.binds (ps:=["number"]) λ_ _ _ _ _ _ us hl=>by obtain ⟨_,rfl⟩:=ex1 hl; rfl
 have F18:=Zaw (st:=Zbw) l18 c18 k18;have b18:=F18.binds (ps:=["thing"]) λ_ _ _ _ _ _ us hl=>by obtain ⟨_,rfl⟩:=ex1 hl; rfl
 have F19:=Zaw (st:=Zdt) l19 c19 k19;have b19:=F19.binds (ps:=["top","bottom"]) λ_ _ _ _ _ _ us hl=>by obtain ⟨_,_,rfl⟩:=ex2 hl; rfl
 have F20:=Zaw (st:=Zej) l20 c20 k20;have b20:=F20.binds (ps:=["rest","prime"]) λ_ _ _ _ _ _ us hl=>by obtain ⟨_,_,rfl⟩:=ex2 hl; rfl
 have F21:=Zaw (st:=Zec) l21 c21 k21;have b21:=F21.binds (ps:=["top","bottom","prime"]) λ_ _ _ _ _ _ us hl=>by obtain ⟨_,_,_,rfl⟩:=ex3 hl; rfl
 have F22:=Zaw (st:=Zdp) l22 c22 k22;have b22:=F22.binds (ps:=["_law_script","_law_k"]) λ_ _ _ _ _ _ us hl=>by obtain ⟨_,_,rfl⟩:=ex2 hl; rfl
 have F23:=Zaw (st:=Zei) l23 c23 k23;have b23:=F23.binds (ps:=["_law_cell_here"]) λ_ _ _ _ _ _ us hl=>by obtain ⟨_,rfl⟩:=ex1 hl; rfl
 have F24:=Zaw (st:=Zdn) l24 c24 k24;have b24:=F24.binds (ps:=["_law_bag_here","_law_many"]) λ_ _ _ _ _ _ us hl=>by obtain ⟨_,_,rfl⟩:=ex2 hl; rfl
 have F25:=Zaw (st:=Zeh) l25 c25 k25;have b25:=F25.binds (ps:=["_law_one","_law_two"]) λ_ _ _ _ _ _ us hl=>by obtain ⟨_,_,rfl⟩:=ex2 hl; rfl
 have F26:=Zaw (st:=Zbq) l26 c26 k26;have b26:=F26.binds (ps:=["_law_top","_law_bottom"]) λ_ _ _ _ _ _ us hl=>by obtain ⟨_,_,rfl⟩:=ex2 hl; rfl
 have F27:=Zaw (st:=Zc1) l27 c27 k27;have b27:=F27.binds (ps:=["_law_found"]) λ_ _ _ _ _ _ us hl=>by obtain ⟨_,rfl⟩:=ex1 hl; rfl
 have F28:=Zaw (st:=Zc3) l28 c28 k28;have b28:=F28.binds (ps:=["_law_bag_here"]) λ_ _ _ _ _ _ us hl=>by obtain ⟨_,rfl⟩:=ex1 hl; rfl
 have F29:=Zaw (st:=Zcm) l29 c29 k29;have b29:=F29.binds (ps:=["_law_bag_here","_law_p"]) λ_ _ _ _ _ _ us hl=>by obtain ⟨_,_,rfl⟩:=ex2 hl; rfl
 have F30:=Zaw (st:=Zdw) l30 c30 k30;have b30:=F30.binds (ps:=["_law_p","_law_a","_law_b"]) λ_ _ _ _ _ _ us hl=>by obtain ⟨_,_,_,rfl⟩:=ex3 hl; rfl
 have F31:=Zaw (st:=Zdv) l31 c31 k31;have b31:=F31.binds (ps:=["_law_p","_law_a","_law_b"]) λ_ _ _ _ _ _ us hl=>by obtain ⟨_,_,_,rfl⟩:=ex3 hl; rfl
 have F32:=Zaw (st:=Zeg) l32 c32 k32;have b32:=F32.binds (ps:=["_law_p","_law_k"]) λ_ _ _ _ _ _ us hl=>by obtain ⟨_,_,rfl⟩:=ex2 hl; rfl
 have F33:=Zaw (st:=Zdq) l33 c33 k33;have b33:=F33.binds (ps:=["_law_p","_law_a"]) λ_ _ _ _ _ _ us hl=>by obtain ⟨_,_,rfl⟩:=ex2 hl; rfl
 have F34:=Zaw (st:=Zdk) l34 c34 k34;have b34:=F34.binds (ps:=["_law_bag_here","_law_p","_law_high","_law_wide"]) λ_ _ _ _ _ _ us hl=>by obtain ⟨_,_,_,_,rfl⟩:=ex4 hl; rfl
 have F35:=Zaw (st:=Zc2) l35 c35 k35;have b35:=F35.binds (ps:=["_law_bag_here","_law_p","_law_high","_law_wide"]) λ_ _ _ _ _ _ us hl=>by obtain ⟨_,_,_,_,rfl⟩:=ex4 hl; rfl
 have F36:=Zaw (st:=Zdo) l36 c36 k36;have b36:=F36.binds (ps:=["_law_table_here"]) λ_ _ _ _ _ _ us hl=>by obtain ⟨_,rfl⟩:=ex1 hl; rfl
 have F37:=Zaw (st:=Zb8) l37 c37 k37;have b37:=F37.binds (ps:=["_law_p","_law_one","_law_other"]) λ_ _ _ _ _ _ us hl=>by obtain ⟨_,_,_,rfl⟩:=ex3 hl; rfl
 have F38:=Zaw (st:=Zb7) l38 c38 k38;have b38:=F38.binds (ps:=["_law_p","_law_table_here"]) λ_ _ _ _ _ _ us hl=>by obtain ⟨_,_,rfl⟩:=ex2 hl; rfl
 have F39:=Zaw (st:=Zj4) l39 c39 k39;have F40:=Zaw (st:=Zee) l40 c40 k40;have b40:=F40.binds (ps:=["ground","one","other"]) λ_ _ _ _ _ _ us hl=>by obtain ⟨_,_,_,rfl⟩:=ex3 hl; rfl
 have F41:=Zaw (st:=Zc0) l41 c41 k41;have b41:=F41.binds (ps:=["ground","row","column"]) λ_ _ _ _ _ _ us hl=>by obtain ⟨_,_,_,rfl⟩:=ex3 hl; rfl
 have F42:=Zaw (st:=Zbv) l42 c42 k42;have b42:=F42.binds (ps:=["table"]) λ_ _ _ _ _ _ us hl=>by obtain ⟨_,rfl⟩:=ex1 hl; rfl
 have F43:=Zaw (st:=Zcl) l43 c43 k43;have b43:=F43.binds (ps:=["_law_one","_law_other"]) λ_ _ _ _ _ _ us hl=>by obtain ⟨_,_,rfl⟩:=ex2 hl; rfl
 have F44:=Zaw (st:=Zel) l44 c44 k44;have b44:=F44.binds (ps:=["ground","table"]) λ_ _ _ _ _ _ us hl=>by obtain ⟨_,_,rfl⟩:=ex2 hl; rfl
 have F45:=Zaw (st:=Zfq) l45 c45 k45;have b45:=F45.binds (ps:=["ground","table","column"]) λ_ _ _ _ _ _ us hl=>by obtain ⟨_,_,_,rfl⟩:=ex3 hl; rfl
 have F46:=Zaw (st:=Zcn) l46 c46 k46;have b46:=F46.binds (ps:=["ground","table","columns"]) λ_ _ _ _ _ _ us hl=>by obtain ⟨_,_,_,rfl⟩:=ex3 hl; rfl
 have F47:=Zaw (st:=Zdj) l47 c47 k47;have b47:=F47.binds (ps:=["_law_p","_law_found","_law_due"]) λ_ _ _ _ _ _ us hl=>by obtain ⟨_,_,_,rfl⟩:=ex3 hl; rfl
 have F48:=Zaw (st:=Zdm) l48 c48 k48;have b48:=F48.binds (ps:=["_law_p","_law_found","_law_due"]) λ_ _ _ _ _ _ us hl=>by obtain ⟨_,_,_,rfl⟩:=ex3 hl; rfl
 have F49:=Zaw (st:=Zdl) l49 c49 k49;have b49:=F49.binds (ps:=["_law_bag_here","_law_p"]) λ_ _ _ _ _ _ us hl=>by obtain ⟨_,_,rfl⟩:=ex2 hl; rfl
 have F50:=Zaw (st:=Zc4) l50 c50 k50;have b50:=F50.binds (ps:=["_law_p","_law_many"]) λ_ _ _ _ _ _ us hl=>by obtain ⟨_,_,rfl⟩:=ex2 hl; rfl
 have F51:=Zaw (st:=Zbg) l51 c51 k51;have b51:=F51.binds (ps:=["_law_ground","_law_p","_law_table_here"]) λ_ _ _ _ _ _ us hl=>by obtain ⟨_,_,_,rfl⟩:=ex3 hl; rfl
 have F52:=Zaw (st:=Zbl) l52 c52 k52;have b52:=F52.binds (ps:=["_law_ground","_law_p","_law_table_here","_law_column"]) λ_ _ _ _ _ _ us hl=>by obtain ⟨_,_,_,_,rfl⟩:=ex4 hl; rfl
 have F53:=Zaw (st:=Zb9) l53 c53 k53;have b53:=F53.binds (ps:=["self","prime"]) λ_ _ _ _ _ _ us hl=>by obtain ⟨_,_,rfl⟩:=ex2 hl; rfl
 have F54:FunD K "number" "Ground.number" Zax f54 _ D54:=⟨⟨oc54,od54,kV54,dc54,pm54,an54,cd54,ct54,sl54,rfl,l54,c54⟩⟩
 have b54:=Zgt (fd:=fnOf "number" "Ground.number" (Zam Zax) (Zak Zax) (Zad Zax) (.ref D54) kV54 dc54 pm54 an54 cd54 ct54) (ps:=["self","top","bottom"]) (ds:=[.int 1 dt54]) dl54 rfl λus hl=>match us,(show us.length = 2 by simpa using hl) with | [_,_],_=>⟨_,rfl,rfl⟩
 have bF54:=Zgt (fd:=fnOf "number" "Ground.number" (Zam Zax) (Zak Zax) (Zad Zax) (.ref D54) kV54 dc54 pm54 an54 cd54 ct54) (ps:=["self","top","bottom"]) (ds:=[]) dl54 rfl λus hl=>match us,(show us.length = 3 by simpa using hl) with | [_,_,_],_=>⟨_,rfl,rfl⟩
 refine ⟨fnOf "law" "law" (Zam Zj4) (Zak Zj4) (Zad Zj4) .none kV39 dc39 pm39 an39 cd39 ct39,λs v=>.of_eq rfl,λbase KB _=>?_⟩;have hcb:=hd_of KB hcL;have C1:Cal l.prog w K mg base "is_whole" 1 Zf7:=⟨_,_,_,Zs9 F1 T ,mg_of X G a1,k1,b1⟩
 have C17:Cal l.prog w K mg base "is_prime" 1 Zmj:=⟨_,_,_,Zte F17 T ,mg_of X G a17,k17,b17⟩
 have C18:Cal l.prog w K mg base "tells_ground" 2 Zmf:=⟨_,_,_,Zta F18 T C1 C17,mg_of X G a18,k18,b18⟩
 have C53:CalI l.prog w K mg base "Ground" C 3 (Zpn C):=⟨_,_,_,ok_init F53 T C18,⟨mk,a53,i53,kc⟩,mg_of X G aC,b53⟩
 have C5:Cal l.prog w K mg base "leading_steps" 1 Zpm:=⟨_,_,_,ok_lead F5 T hpt,mg_of X G a5,k5,b5⟩
 have C4:Cal l.prog w K mg base "shortened" 2 Zmh:=⟨_,_,_,Ztc F4 T C5,mg_of X G a4,k4,b4⟩
 have C3:Cal l.prog w K mg base "not_both_long" 3 spNbl:=⟨_,_,_,ok_nbl F3 T C4,mg_of X G a3,k3,b3⟩
 have C2:Cal l.prog w K mg base "common_divisor" 4 Zoj:=⟨_,_,_,ok_cdB F2 T C3,mg_of X G a2,k2,b2⟩
 have C19:Cal l.prog w K mg base "fraction" 5 Zml:=⟨_,_,_,Ztg F19 T hpt C2,mg_of X G a19,k19,b19⟩
 have C20:Cal l.prog w K mg base "inverse" 1 spInv:=⟨_,_,_,ok_inv F20 T ,mg_of X G a20,k20,b20⟩
 have C21:Cal l.prog w K mg base "rest_of" 2 Zmi:=⟨_,_,_,Ztd F21 T C20,mg_of X G a21,k21,b21⟩
 have C54:CalD l.prog w K mg base C "number" 6 (Zg2 C) [.int 1]:=⟨_,_,_,_,Zp6 F54 T C19 C21,⟨a54,i54,k54⟩,b54,.cons ⟨_,rfl⟩ .nil⟩
 have C54F:CalD l.prog w K mg base C "number" 6 (Zg2 C) []:=⟨_,_,_,[],Zp6 F54 T C19 C21,⟨a54,i54,k54⟩,bF54,.nil⟩
 have C6:Cal l.prog w K mg base "common_multiple" 5 spCmB:=⟨_,_,_,ok_cmB F6 T hpt C2,mg_of X G a6,k6,b6⟩
 have C7:Cal l.prog w K mg base "whole_row" 6 (Zsj C):=⟨_,_,_,ok_wrZ F7 T hpt C6,mg_of X G a7,k7,b7⟩
 have C8:Cal l.prog w K mg base "tidied" 5 (Zne C):=⟨_,_,_,ok_tidy F8 T hpt C2,mg_of X G a8,k8,b8⟩
 have C9:Cal l.prog w K mg base "cleared" 6 (Zj1 C):=⟨_,_,_,Zth F9 T hpt C2 C8,mg_of X G a9,k9,b9⟩
 have C10:Cal l.prog w K mg base "leading_row" 1 (spLr PL):=⟨_,_,_,ok_lr F10 T hcb,mg_of X G a10,k10,b10⟩
 have C11:Cal l.prog w K mg base "swept" 7 (Zmg C PL):=⟨_,_,_,Ztb F11 T C7 C8 C9 C10,mg_of X G a11,k11,b11⟩
 have C12:Cal l.prog w K mg base "reduced_rows" 8 (Zsk C PL):=⟨_,_,_,ok_red F12 T C11 C9 C54F,mg_of X G a12,k12,b12⟩
 have C14:Cal l.prog w K mg base "noughts" 7 (Zsm C):=⟨_,_,_,ok_nou F14 T C54,mg_of X G a14,k14,b14⟩
 have C13:Cal l.prog w K mg base "plain" 8 (spPl C):=⟨_,_,_,ok_pl F13 T C14 C54,mg_of X G a13,k13,b13⟩
 have C15:Cal l.prog w K mg base "side_by_side" 1 (Znf C):=⟨_,_,_,ok_side F15 T ,mg_of X G a15,k15,b15⟩
 have C16:Cal l.prog w K mg base "reduced" 9 (Zh4 C PL):=⟨_,_,_,Zon F16 T C15 C13 C12,mg_of X G a16,k16,b16⟩
 have C22:Cal l.prog w K mg base "_law_cell" 1 (Zpp K):=⟨_,_,_,ok_cell F22 T ,mg_of X G a22,k22,b22⟩
 have C23:Cal l.prog w K mg base "_law_bag" 1 spBag:=⟨_,_,_,ok_bag F23 T ,mg_of X G a23,k23,b23⟩
 have C24:Cal l.prog w K mg base "_law_draw" 1 Zgf:=⟨_,_,_,ok_draw F24 T ,mg_of X G a24,k24,b24⟩
 have C25:Cal l.prog w K mg base "_law_gcd" 1 Zpo:=⟨_,_,_,ok_gcd F25 T ,mg_of X G a25,k25,b25⟩
 have C26A:Cal l.prog w K mg base "_law_lowest" 2 Zi9:=⟨_,_,_,Zqa F26 T hpt C25,mg_of X G a26,k26,b26⟩
 have C26B:Cal l.prog w K mg base "_law_lowest" 2 Zky:=⟨_,_,_,Zqb F26 T hpt C25,mg_of X G a26,k26,b26⟩
 have C26Z:Cal l.prog w K mg base "_law_lowest" 3 Zpl:=⟨_,_,_,ok_lowZ F26 T hpt C25 C26B,mg_of X G a26,k26,b26⟩
 have C27:Cal l.prog w K mg base "_law_whole" 1 Zf7:=⟨_,_,_,Zp7 F27 T ,mg_of X G a27,k27,b27⟩
 have C28:Cal l.prog w K mg base "_law_prime" 2 spPr:=⟨_,_,_,Zp9 F28 T C24,mg_of X G a28,k28,b28⟩
 have C29:Cal l.prog w K mg base "_law_number" 3 Zsl:=⟨_,_,_,ok_lnum F29 T C24 C26A,mg_of X G a29,k29,b29⟩
 have C30:Cal l.prog w K mg base "_law_add" 3 (spOp Zc5):=⟨_,_,_,ok_add F30 T C26A,mg_of X G a30,k30,b30⟩
 have C31:Cal l.prog w K mg base "_law_mul" 3 (spOp Zba):=⟨_,_,_,ok_mul F31 T C26A,mg_of X G a31,k31,b31⟩
 have C30B:Cal l.prog w K mg base "_law_add" 3 (Zkx Zc5):=⟨_,_,_,ok_addB F30 T C26B,mg_of X G a30,k30,b30⟩
 have C31B:Cal l.prog w K mg base "_law_mul" 3 (Zkx Zba):=⟨_,_,_,ok_mulB F31 T C26B,mg_of X G a31,k31,b31⟩
 have C32:Cal l.prog w K mg base "_law_int" 1 Zoi:=⟨_,_,_,ok_int F32 T ,mg_of X G a32,k32,b32⟩
 have C33:Cal l.prog w K mg base "_law_back" 4 Zmm:=⟨_,_,_,ok_back F33 T C26Z,mg_of X G a33,k33,b33⟩
 have C34:Cal l.prog w K mg base "_law_rows" 4 Zph:=⟨_,_,_,ok_rows F34 T C24 C29 C32,mg_of X G a34,k34,b34⟩
 have C35:Cal l.prog w K mg base "_law_table" 5 spTb:=⟨_,_,_,ok_tb F35 T C34 C24 C29 C31 C30,mg_of X G a35,k35,b35⟩
 have C36:Cal l.prog w K mg base "_law_copy" 1 Zja:=⟨_,_,_,ok_copy F36 T ,mg_of X G a36,k36,b36⟩
 have C37:Cal l.prog w K mg base "_law_product" 4 Zpk:=⟨_,_,_,ok_lpB F37 T C32 C30B C31B,mg_of X G a37,k37,b37⟩
 have C38:Cal l.prog w K mg base "_law_reduced" 5 Zng:=⟨_,_,_,ok_lred F38 T C36 C32 C30B C31B C33,mg_of X G a38,k38,b38⟩
 have C41:Cal l.prog w K mg base "row_times" 7 (spRt C):=⟨_,_,_,ok_rt F41 T C54F,mg_of X G a41,k41,b41⟩
 have C42:Cal l.prog w K mg base "turned_about" 1 spTa:=⟨_,_,_,ok_ta F42 T ,mg_of X G a42,k42,b42⟩
 have C40:Cal l.prog w K mg base "product" 8 (Zpi C):=⟨_,_,_,ok_prod F40 T C7 C42 C41,mg_of X G a40,k40,b40⟩
 have C43:Cal l.prog w K mg base "_law_pasted" 1 Zmk:=⟨_,_,_,Ztf F43 T ,mg_of X G a43,k43,b43⟩
 have C47:Cal l.prog w K mg base "_law_same" 2 Zpg:=⟨_,_,_,ok_same F47 T C27,mg_of X G a47,k47,b47⟩
 have C48:Cal l.prog w K mg base "_law_good" 3 Znh:=⟨_,_,_,ok_good F48 T C27 C47,mg_of X G a48,k48,b48⟩
 have C44:Cal l.prog w K mg base "back_of" 10 (Zpq C PL):=⟨_,_,_,Zqd F44 T C16 C13,mg_of X G a44,k44,b44⟩
 have C46:Cal l.prog w K mg base "all_led_to" 9 (Zoh C PL):=⟨_,_,_,Zqe F46 T C15 C12 C54 C14,mg_of X G a46,k46,b46⟩
 have C45:Cal l.prog w K mg base "led_to" 10 (Zoh C PL):=⟨_,_,_,ok_led F45 T C46,mg_of X G a45,k45,b45⟩
 have C49:Cal l.prog w K mg base "_law_most" 2 Zpj:=⟨_,_,_,ok_most F49 T C24,mg_of X G a49,k49,b49⟩
 have C50:Cal l.prog w K mg base "_law_plain" 2 spLpl:=⟨_,_,_,ok_lpl F50 T C32,mg_of X G a50,k50,b50⟩
 have C51:Cal l.prog w K mg base "_law_back_right" 11 (spBR C PL):=⟨_,_,_,Zqc F51 T C36 C38 C44 C48 C37 C50,mg_of X G a51,k51,b51⟩
 have C52:Cal l.prog w K mg base "_law_led_right" 11 (spLR C PL):=⟨_,_,_,Zp8 F52 T C36 C38 C43 C45 C48 C37,mg_of X G a52,k52,b52⟩
 exact ok_law F39 T C22 C23 C28 C53 C49 C24 C35 C51 C36 C40 C37 C52
theorem walk {l:PySem.W.OpenLaw} {q:Program} {loose:List Str} {XP:(Str->Option Value)->Heap->Prop} {d:DefRec} {K:Params->PySem.W.Frag} {as:List Addr} {e:∀ (P:Params),as = List.map (λx=>x.fst) (K P)} {PL:Addr} (hq:importsNone q = true) (hn:l.most = some 63) (hdf:d.params.defaults = [])
  (hN:∀ p,(K p).lookup PL = none) (hC:∀ p,hdIn (K p) (PL + 2) PL = true)
  (F:∀ (w:World) (mg:Str->Option Value) (fa:Addr) (h:Heap),(K w.params).In h->h.Ns mainGlobals mg->mg d.name = some (.ref fa)->
   ∃ fd:FuncData,(∀ (s:Shared) (u:Value),BindsTo s fd ⟨[u],[]⟩ [("_law_script",u)])/\∀ base:Heap,(K w.params).In base->base.Ns mainGlobals mg->FnOk l.prog w (K w.params) mg base CX0 12 fa fd ["_law_script"] (Zsn (K w.params) PL)):
  PySem.W.WalkO q loose XP (PySem.W.kmHook K as e [PL]).says l.row.toRowW d [] (λf vs=>PySem.call f vs):=
 Zsa (n:=63) (k:=12) (x:="_law_script") (sp:=λw=>Zsn (K w.params) PL) (PL + 2) PL 101 26 ("leading_row.<locals>." ++ "<lambda>") hq hn (by decide) hdf ⟨rfl,by decide,by decide⟩ (λw h Y=>PySem.W.km_in_of Y) (λw h Y=>PySem.W.km_tabs_of Y PL (Ja1.mpr rfl)) hN hC F (λ_ H a ns Q E hl hS hT q=>⟨a,ns,rfl,hS,hl,hT,q⟩)
end Pf
namespace PySem.W.Fast
def tw11162015327989197183:=0
def tw9885514493702894963:=0
def tw17260229601719124335:=0
def tw2036364232707179792:=0
def tw12312195064595305141:=0
def tw7601969600415360398:=0
def tw893289700394098025:=0
def tw9633596335716087856:=0
def tw16348701325127800433:=0
def tw17090376734221423900:=0
def tw6955184907136140389:=0
def tw11855699405210815474:=0
def tw14648949747069198707:=0
def tw18263807045271901885:=0
def tw10876866480199943370:=0
def tw9813028772959765360:=0
def tw76186677009053763:=0
def tw5761357373988493636:=0
def tw17632975862387959870:=0
def tw3029016092598984227:=0
def tw10050155421741083909:=0
def tw9843314471614663871:=0
def tw14196763849051271222:=0
def tw13032644343153541518:=0
def tw15340785073857560033:=0
def tw6951202480972812665:=0
def tw2712997673972967127:=0
def tw12611362461905669856:=0
def tw11442833277658641128:=0
def tw15146178670050767961:=0
def tw1021514929979076231:=0
def tw7734497341228898441:=0
def tw17050455302449662753:=0
def tw5033539444919019648:=0
def tw17397733973884973678:=0
def tw8002435056764318931:=0
def tw15669746184377168677:=0
def tw5625530011401438439:=0
def tw261848419322112842:=0
def tw9809782137689150659:=0
def tw9862786350796636281:=0
def tw14690646160891128564:=0
def tw3147418210003820698:=0
def tw4707884169735897873:=0
def tw12758204963805924317:=0
def tw15074157381208022391:=0
def tw11919372395212223300:=0
def tw17790026914375269724:=0
def tw10681317133692347531:=0
def tw10831527011669711690:=0
def tw4014256709460354953:=0
def tw11093897691663979968:=0
def tw15266980263294611135:=0
def tw6525763640228470026:=0
def tw17120195577095432659:=0
def tw5559200524686522276:=0
def tw12267686230494117213:=0
def tw9458427821032592644:=0
def tw5681630051250767571:=0
def tw1568179195175499759:=0
def tw5367371768802555602:=0
def tw2884374698500751870:=0
def tw12107011182234799718:=0
def tw1917786173653720534:=0
def tw17593034178750840599:=0
def tw11141879506877020878:=0
def tw1998410425228588981:=0
def tw10822429985527451300:=0
def tw3431964650042740829:=0
def tw15252259547384710459:=0
def tw2789070705321435456:=0
def tw10602855844486128452:=0
def tw8026243390391704959:=0
def tw10961060592503526378:=0
def tw4247736012653888480:=0
def tw17900252918609479794:=0
def tw1284815903691116945:=0
def tw2493909449399163239:=0
def tw13117960526129856595:=0
def tw1919927847302820396:=0
def tw2420541774997980511:=0
def tw15235687581831996124:=0
def tw5807707084847820506:=0
def tw2501988806193996853:=0
def tw4428094267023522291:=0
def tw3568043625692477270:=0
def tw13410334840337424304:=0
def tw5154682954782278236:=0
def tw2343751460167005406:=0
def tw4516343859648816199:=0
def tw3964160339906626391:=0
def tw2455614612864696273:=0
def tw1154907318417221501:=0
def tw1930903545668471550:=0
def tw7800878557864156803:=0
def tw13272703672414835782:=0
def tw8306775210510161364:=0
def tw16920542778435884407:=0
def tw5500448971589351151:=0
def tw10895639726054187101:=0
def tw453368158218949382:=0
def tw7325198756362376852:=0
def tw3989609624504534371:=0
def tw10148995671616625133:=0
def tw4348343320862831705:=0
def tw12533738364602543568:=0
def tw2971188353276951375:=0
def tw2047841430573337677:=0
def tw15391524518955085880:=0
def tw1730311754413710171:=0
def tw11916266875594602326:=0
def tw12685220977677273454:=0
def tw3621817303953540499:=0
def tw14825934835042520948:=0
def tw282726771100323189:=0
def tw9683329223808294378:=0
def tw8946984663019641342:=0
def tw8042694601824667025:=0
def tw18383925749002067864:=0
def tw5435368071673717022:=0
def tw355201808139942518:=0
def tw17386704453772416286:=0
def tw14390038411483666592:=0
def tw14978478622838204575:=0
def tw2513063715760082959:=0
def tw13222989631665205232:=0
def tw4516231353421115510:=0
def tw17874748926087688940:=0
def tw6261169623431436228:=0
def tw7275531630806257518:=0
def tw12899392157005152746:=0
def tw14229202414469160397:=0
def tw14312573399282139809:=0
def tw17758626129007411040:=0
def tw8219927148133128277:=0
def tw1366109025945690119:=0
def tw10735357005557416189:=0
def tw3938961038632317046:=0
def tw12393075561725573160:=0
def tw8855316296146072966:=0
def tw11225785686256106047:=0
def tw12751718456820604080:=0
def tw13657181092452286195:=0
def tw303357004549414622:=0
def tw3717817568444211959:=0
def tw10135841870585191315:=0
def tw15863606047476489444:=0
def tw15842919821698905290:=0
def tw10427002570752515890:=0
def tw834649891178696997:=0
def tw17619796646973464034:=0
def tw4061321513339083809:=0
def tw4819470593097656870:=0
def tw7779775614010578705:=0
def tw18164150281907301243:=0
def tw422710618429511957:=0
def tw18363856248249064023:=0
def tw16057621173950932300:=0
def tw16474284258871043761:=0
def tw9182557142673957338:=0
def tw13562163497850528229:=0
def tw4780780053336454431:=0
def tw11463230363498631654:=0
def tw15162596242249399815:=0
def tw14592716431138921152:=0
def tw2827930900154518851:=0
def tw1148129949152821280:=0
def tw1822737103343703342:=0
end PySem.W.Fast
open PySem PySem.W PyProof.Rows
set_option maxRecDepth 100000 in
set_option maxHeartbeats 0 in
theorem PySem.Challenge.cw_limbtables_k11_backs_and_columns_holds : PySem.Challenge.rw_limbtables_k11_backs_and_columns.Holds := by
 w_on; o_law; k_head; (case hw=>w_witness2)
 k_fill
 refine Pf.walk (l:=PySem.Challenge.rw_limbtables_k11_backs_and_columns) (by decide +kernel) rfl rfl (λp=>by kernel_rfl) (λp=>by kernel_rfl) ?F
 case F=>
  intro w mg fa h KX G hmg;refine' Pf.all_mk rfl KX G hmg ?a1 ?l1 ?c1 ?k1 ?a2 ?l2 ?c2 ?k2 ?a3 ?l3 ?c3 ?k3 ?a4 ?l4 ?c4 ?k4 ?a5 ?l5 ?c5 ?k5 ?a6 ?l6 ?c6 ?k6 ?a7 ?l7 ?c7 ?k7 ?a8 ?l8 ?c8 ?k8 ?a9 ?l9 ?c9 ?k9 ?a10 ?l10 ?c10 ?k10 ?a11 ?l11 ?c11 ?k11 ?a12 ?l12 ?c12 ?k12 ?a13 ?l13 ?c13 ?k13 ?a14 ?l14 ?c14 ?k14 ?a15 ?l15 ?c15 ?k15 ?a16 ?l16 ?c16 ?k16 ?a17 ?l17 ?c17 ?k17 ?a18 ?l18 ?c18 ?k18 ?a19 ?l19 ?c19 ?k19 ?a20 ?l20 ?c20 ?k20 ?a21 ?l21 ?c21 ?k21 ?a22 ?l22 ?c22 ?k22 ?a23 ?l23 ?c23 ?k23 ?a24 ?l24 ?c24 ?k24 ?a25 ?l25 ?c25 ?k25 ?a26 ?l26 ?c26 ?k26 ?a27 ?l27 ?c27 ?k27 ?a28 ?l28 ?c28 ?k28 ?a29 ?l29 ?c29 ?k29 ?a30 ?l30 ?c30 ?k30 ?a31 ?l31 ?c31 ?k31 ?a32 ?l32 ?c32 ?k32 ?a33 ?l33 ?c33 ?k33 ?a34 ?l34 ?c34 ?k34 ?a35 ?l35 ?c35 ?k35 ?a36 ?l36 ?c36 ?k36 ?a37 ?l37 ?c37 ?k37 ?a38 ?l38 ?c38 ?k38 ?a39 ?l39 ?c39 ?k39 ?a40 ?l40 ?c40 ?k40 ?a41 ?l41 ?c41 ?k41 ?a42 ?l42 ?c42 ?k42 ?a43 ?l43 ?c43 ?k43 ?a44 ?l44 ?c44 ?k44 ?a45 ?l45 ?c45 ?k45 ?a46 ?l46 ?c46 ?k46 ?a47 ?l47 ?c47 ?k47 ?a48 ?l48 ?c48 ?k48 ?a49 ?l49 ?c49 ?k49 ?a50 ?l50 ?c50 ?k50 ?a51 ?l51 ?c51 ?k51 ?a52 ?l52 ?c52 ?k52 ?aC ?a53 ?i53 ?l53 ?c53 ?k53 ?a54 ?i54 ?l54 ?dl54 ?c54 ?k54 ?pg ?hd ?po ?sa ?mk ?kc ?nP ?g1 ?g2 ?g3 ?z0 ?z1 ?z2 ?z3 ?z4 ?z5 ?z6 ?z7 ?z8 ?z9 ?z10 ?z11 ?z12 ?z13 ?z14 ?z15 ?hcL
  (case a1=>k_is)
  (case l1=>k_is)
  (case c1=>k_is)
  (case k1=>k_is)
  (case a2=>k_is)
  (case l2=>k_is)
  (case c2=>k_is)
  (case k2=>k_is)
  (case a3=>k_is)
  (case l3=>k_is)
  (case c3=>k_is)
  (case k3=>k_is)
  (case a4=>k_is)
  (case l4=>k_is)
  (case c4=>k_is)
  (case k4=>k_is)
  (case a5=>k_is)
  (case l5=>k_is)
  (case c5=>k_is)
  (case k5=>k_is)
  (case a6=>k_is)
  (case l6=>k_is)
  (case c6=>k_is)
  (case k6=>k_is)
  (case a7=>k_is)
  (case l7=>k_is)
  (case c7=>k_is)
  (case k7=>k_is)
  (case a8=>k_is)
  (case l8=>k_is)
  (case c8=>k_is)
  (case k8=>k_is)
  (case a9=>k_is)
  (case l9=>k_is)
  (case c9=>k_is)
  (case k9=>k_is)
  (case a10=>k_is)
  (case l10=>k_is)
  (case c10=>k_is)
  (case k10=>k_is)
  (case a11=>k_is)
  (case l11=>k_is)
  (case c11=>k_is)
  (case k11=>k_is)
  (case a12=>k_is)
  (case l12=>k_is)
  (case c12=>k_is)
  (case k12=>k_is)
  (case a13=>k_is)
  (case l13=>k_is)
  (case c13=>k_is)
  (case k13=>k_is)
  (case a14=>k_is)
  (case l14=>k_is)
  (case c14=>k_is)
  (case k14=>k_is)
  (case a15=>k_is)
  (case l15=>k_is)
  (case c15=>k_is)
  (case k15=>k_is)
  (case a16=>k_is)
  (case l16=>k_is)
  (case c16=>k_is)
  (case k16=>k_is)
  (case a17=>k_is)
  (case l17=>k_is)
  (case c17=>k_is)
  (case k17=>k_is)
  (case a18=>k_is)
  (case l18=>k_is)
  (case c18=>k_is)
  (case k18=>k_is)
  (case a19=>k_is)
  (case l19=>k_is)
  (case c19=>k_is)
  (case k19=>k_is)
  (case a20=>k_is)
  (case l20=>k_is)
  (case c20=>k_is)
  (case k20=>k_is)
  (case a21=>k_is)
  (case l21=>k_is)
  (case c21=>k_is)
  (case k21=>k_is)
  (case a22=>k_is)
  (case l22=>k_is)
  (case c22=>k_is)
  (case k22=>k_is)
  (case a23=>k_is)
  (case l23=>k_is)
  (case c23=>k_is)
  (case k23=>k_is)
  (case a24=>k_is)
  (case l24=>k_is)
  (case c24=>k_is)
  (case k24=>k_is)
  (case a25=>k_is)
  (case l25=>k_is)
  (case c25=>k_is)
  (case k25=>k_is)
  (case a26=>k_is)
  (case l26=>k_is)
  (case c26=>k_is)
  (case k26=>k_is)
  (case a27=>k_is)
  (case l27=>k_is)
  (case c27=>k_is)
  (case k27=>k_is)
  (case a28=>k_is)
  (case l28=>k_is)
  (case c28=>k_is)
  (case k28=>k_is)
  (case a29=>k_is)
  (case l29=>k_is)
  (case c29=>k_is)
  (case k29=>k_is)
  (case a30=>k_is)
  (case l30=>k_is)
  (case c30=>k_is)
  (case k30=>k_is)
  (case a31=>k_is)
  (case l31=>k_is)
  (case c31=>k_is)
  (case k31=>k_is)
  (case a32=>k_is)
  (case l32=>k_is)
  (case c32=>k_is)
  (case k32=>k_is)
  (case a33=>k_is)
  (case l33=>k_is)
  (case c33=>k_is)
  (case k33=>k_is)
  (case a34=>k_is)
  (case l34=>k_is)
  (case c34=>k_is)
  (case k34=>k_is)
  (case a35=>k_is)
  (case l35=>k_is)
  (case c35=>k_is)
  (case k35=>k_is)
  (case a36=>k_is)
  (case l36=>k_is)
  (case c36=>k_is)
  (case k36=>k_is)
  (case a37=>k_is)
  (case l37=>k_is)
  (case c37=>k_is)
  (case k37=>k_is)
  (case a38=>k_is)
  (case l38=>k_is)
  (case c38=>k_is)
  (case k38=>k_is)
  (case a39=>k_is)
  (case l39=>k_is)
  (case c39=>k_is)
  (case k39=>k_is)
  (case a40=>k_is)
  (case l40=>k_is)
  (case c40=>k_is)
  (case k40=>k_is)
  (case a41=>k_is)
  (case l41=>k_is)
  (case c41=>k_is)
  (case k41=>k_is)
  (case a42=>k_is)
  (case l42=>k_is)
  (case c42=>k_is)
  (case k42=>k_is)
  (case a43=>k_is)
  (case l43=>k_is)
  (case c43=>k_is)
  (case k43=>k_is)
  (case a44=>k_is)
  (case l44=>k_is)
  (case c44=>k_is)
  (case k44=>k_is)
  (case a45=>k_is)
  (case l45=>k_is)
  (case c45=>k_is)
  (case k45=>k_is)
  (case a46=>k_is)
  (case l46=>k_is)
  (case c46=>k_is)
  (case k46=>k_is)
  (case a47=>k_is)
  (case l47=>k_is)
  (case c47=>k_is)
  (case k47=>k_is)
  (case a48=>k_is)
  (case l48=>k_is)
  (case c48=>k_is)
  (case k48=>k_is)
  (case a49=>k_is)
  (case l49=>k_is)
  (case c49=>k_is)
  (case k49=>k_is)
  (case a50=>k_is)
  (case l50=>k_is)
  (case c50=>k_is)
  (case k50=>k_is)
  (case a51=>k_is)
  (case l51=>k_is)
  (case c51=>k_is)
  (case k51=>k_is)
  (case a52=>k_is)
  (case l52=>k_is)
  (case c52=>k_is)
  (case k52=>k_is)
  (case aC=>k_is)
  (case a53=>k_is)
  (case i53=>k_is)
  (case l53=>k_is)
  (case c53=>k_is)
  (case k53=>k_is)
  (case a54=>k_is)
  (case i54=>k_is)
  (case l54=>k_is)
  (case dl54=>k_is)
  (case c54=>k_is)
  (case k54=>k_is)
  (case pg=>k_is)
  (case hd=>k_is)
  (case po=>k_is)
  (case sa=>k_is)
  (case mk=>k_is)
  (case kc=>k_is)
  (case nP=>k_is)
  (case g1=>k_is)
  (case g2=>k_is)
  (case g3=>k_is)
  (case z0=>k_is)
  (case z1=>k_is)
  (case z2=>k_is)
  (case z3=>k_is)
  (case z4=>k_is)
  (case z5=>k_is)
  (case z6=>k_is)
  (case z7=>k_is)
  (case z8=>k_is)
  (case z9=>k_is)
  (case z10=>k_is)
  (case z11=>k_is)
  (case z12=>k_is)
  (case z13=>k_is)
  (case z14=>k_is)
  (case z15=>k_is)
  (case hcL=>kernel_rfl)
#print axioms PySem.Challenge.cw_limbtables_k11_backs_and_columns_holds