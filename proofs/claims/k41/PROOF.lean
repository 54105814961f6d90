import PyProof.Rows.All
import Wide.All
import OpenK.AllK
import Wide.FinOn
import HandS.Base
import HandS.Call
import HandS.List
import HandS.Comp
import HandS.Ends
import HandS.Dict
import HandS.Iter
import HandS.Text
import HandS.Words
import HandS.WordsList
import HandS.WordsDict
import HandS.Wide
import HandS.IsInst
import HandS.Codes
import HandS.Property
import HandS.ClsMeth
import HandS.Defaults
import HandS.MakeKw
import HandS.CallLocal
import HandS.CallSlots
import HandS.Exc
import HandS.ExcInit
import HandS.ExcField
import HandS.ExcIs
import HandS.ExcOwn
import HandS.TryOnly
import HandS.WordsExc
import HandS.Gcd
import HandS.FStr
import HandS.StrMore
import HandS.WideBits
import HandS.Style
import HandS.OwnEq
import OpenK.KMeth
import KE.KOpsOwn
import HandS.TupAny
import PyProof.InstEq
import HandS.HotCalls
import HandS.ExcValue
import HandS.Star
import HandS.Zip
import HandS.Walk
import HandS.DictComp
import HandS.Conv
import KE.KDictZip
import HandS.Deep
import HandS.TryMany
import OpenK.KOps
import HandS.Small
import HandS.SetFor
import HandS.Strs
import KE.SortData
import KE.GoesEnumKw
import PyProof.NeKinds
import HandS.Finally
import KE.KEqDict
import KE.KEqNest
import PySem.Challenge.RW_extralink_k41_check_pair
set_option Elab.async false
set_option linter.all false
set_option maxRecDepth 100000
/-! My own rules beside the hand layer's: an item of a list read for a store in place, a text backwards, a call by keywords alone; what is said of lists of ints as data. -/
namespace My
open PySem PySem.Spec PyProof.Rows L2

/-! ### rules -/
section
variable {X : Cx}
def rGetL (K : PySem.W.Frag) : V → V → Hp → VK → Prop := fun x y H Q => ∃ p xs i v, x = .ref p ∧ y = .int i ∧ SqL K H p xs ∧ 0 ≤ i ∧ atI xs i = some v ∧ Q v H
theorem get_list : PGet X (rGetL X.K) := by
  intro pins s σ H o i ov iv Q I ro ri h
  obtain ⟨p, xs, k, z, rfl, rfl, hq, h0, he, q⟩ := h
  cases ro
  obtain ⟨t, rfl⟩ := ri
  obtain ⟨its, r, pl, hz⟩ := I.list hq
  obtain ⟨j, h1, h2, h3, h4, h5⟩ := atI_get he
  obtain ⟨w, ew, rw'⟩ := r.get h2
  have hl := r.length
  have hn := line63
  have hj : k.toNat = j := by
    rw [seqIndex_of h0 h5] at h1
    exact Option.some.inj h1
  exact wpAny_getItem_list pl.isList h0 (by omega) (by rw [hj]; simpa using ew) ⟨z, H, I, rw', q⟩

def revS (z : Str) : Str := ⟨z.cps.reverse⟩
def tRevS (te : TE) : TE := fun σ H Q => te σ H fun x H1 => ∃ z, x = .str z ∧ z.length ≤ sizeLine ∧ Q (.str (revS z)) H1
theorem range_back (n : Nat) : sliceRange ((n : Int) - 1) (-1) (-1) = (List.range n).map fun k => n - 1 - k := by
  unfold sliceRange
  have e : (if (-1 : Int) > 0 then (if ((n : Int) - 1) < -1 then (-1 - ((n : Int) - 1) + -1 - 1) / -1 else 0) else (if ((n : Int) - 1) > -1 then (((n : Int) - 1) - -1 - -1 - 1) / (- -1) else 0)).toNat = n := by
    rw [if_neg (by decide)]
    by_cases h : ((n : Int) - 1) > -1
    · rw [if_pos h, show (- -1 : Int) = 1 by decide, Int.ediv_one]
      omega
    · rw [if_neg h]
      omega
  show List.map (fun (k : Nat) => (((n : Int) - 1) + (-1) * (k : Int)).toNat) (List.range (Int.toNat (if (-1 : Int) > 0 then (if ((n : Int) - 1) < -1 then (-1 - ((n : Int) - 1) + -1 - 1) / -1 else 0) else (if ((n : Int) - 1) > -1 then (((n : Int) - 1) - -1 - -1 - 1) / (- -1) else 0)))) = _
  rw [e]
  refine List.map_congr_left fun k hk => ?_
  have := List.mem_range.mp hk
  omega
theorem filterMap_back (z : Array Nat) : (((List.range z.size).map fun k => z.size - 1 - k).filterMap (z[·]?)) = z.toList.reverse := by
  refine List.ext_getElem? fun i => ?_
  have e : (((List.range z.size).map fun k => z.size - 1 - k).filterMap (z[·]?)) = (List.range z.size).map fun k => z.getD (z.size - 1 - k) 0 := by
    rw [List.filterMap_map]
    have : ∀ l : List Nat, (∀ k ∈ l, k < z.size) → l.filterMap ((fun x => z[x]?) ∘ fun k => z.size - 1 - k) = l.map fun k => z.getD (z.size - 1 - k) 0 := by
      intro l
      induction l with
      | nil => intro _; rfl
      | cons a r ih =>
        intro h
        have ha := h a List.mem_cons_self
        have hb : z.size - 1 - a < z.size := by omega
        rw [List.filterMap_cons]
        have e1 : ((fun x => z[x]?) ∘ fun k => z.size - 1 - k) a = some (z.getD (z.size - 1 - a) 0) := by
          show z[z.size - 1 - a]? = _
          rw [Array.getElem?_eq_getElem hb]
          simp [Array.getD, hb]
        rw [e1, List.map_cons, ih fun k hk => h k (List.mem_cons_of_mem _ hk)]
    exact this _ fun k hk => List.mem_range.mp hk
  rw [e, List.getElem?_map]
  by_cases hi : i < z.size
  · rw [List.getElem?_range hi, List.getElem?_reverse (by simpa using hi)]
    have hb : z.size - 1 - i < z.size := by omega
    simp [Array.getD, hb]
  · rw [List.getElem?_eq_none (by simpa using hi), List.getElem?_eq_none (by simpa using hi)]
    rfl
theorem pe_revS {e : Expr} {te : TE} {k : Nat} {p1 p2 p3 pos : Pos} (he : PE X e te) : PE X (.Subscript e (.Slice none none (some (.UnaryOp .USub (.Constant (.int 1) k p1) p2)) p3) pos) (tRevS te) := by
  refine ⟨fun pins s σ H Q I h => ?_⟩
  refine Subscript_ (thn (he.run pins s σ H _ I h) fun v s1 ⟨x, H1, I1, r1, q1⟩ => ?_)
  obtain ⟨z, ex, hz, q⟩ := q1
  subst ex
  obtain ⟨tz, rfl⟩ := r1
  have hst : PO X (some (.UnaryOp .USub (.Constant (.int 1) k p1) p2)) (tPart (tUn (rU fun i => .int (-i)) (tC (.int 1)))) := po_some (pe_un un_neg pe_int)
  refine wpAny_Slice (thn (po_none.run pins s1 σ H1 (fun o H2 => o = none ∧ H2 = H1) I1 ⟨rfl, rfl⟩) fun vl s2 ⟨l, H2, I2, pl, el, e2⟩ => ?_)
  subst el e2
  refine thn (po_none.run pins s2 σ H2 (fun o H3 => o = none ∧ H3 = H2) I2 ⟨rfl, rfl⟩) fun vu s3 ⟨u, H3, I3, pu, eu, e3⟩ => ?_
  subst eu e3
  refine thn (hst.run pins s3 σ H3 (fun o H4 => o = some (-1) ∧ H4 = H3) I3 ⟨1, rfl, -1, rfl, rfl, rfl⟩) fun vs s4 ⟨o, H4, I4, ps, eo, e4⟩ => ?_
  subst eo e4
  have I5 : Inv X pins σ H4 { s4 with heap := s4.heap.push { cls := .type "slice", data := .fields #[vl, vu, vs] } } := I4.kept (t' := s4.toks) fun b ob q => Heap.get?_push_of_some _ q
  obtain ⟨l, rfl, el⟩ := IsPart.raw pl
  obtain ⟨u, rfl, eu⟩ := IsPart.raw pu
  obtain ⟨st, rfl, est⟩ := IsPart.raw ps
  cases l with
  | some _ => cases el
  | none =>
  cases u with
  | some _ => cases eu
  | none =>
  cases st with
  | none => cases est
  | some st =>
  obtain ⟨k1, tk⟩ := st
  have ek : k1 = -1 := Option.some.inj est
  subst ek
  show wpAny (model X.prog X.w) X.A (subscriptTail e (.Slice none none (some (.UnaryOp .USub (.Constant (.int 1) k p1) p2)) p3) (.str z tz) (.ref s4.heap.objs.size)) (EP X pins σ Q) X.xe { s4 with heap := s4.heap.push { cls := .type "slice", data := .fields #[.none, .none, .int (-1) tk] } }
  refine tail_any (ops := [.ref s4.heap.objs.size, .str z tz]) (typeIs_str _ _ _) F.slot_str_getitem.lookup ?_ (by with_unfolding_all rfl)
  refine wpAny_getItem_str_slice (l := none) (u := none) (st := some (-1, tk)) ⟨_, Heap.get?_push_size _ rfl, rfl, rfl⟩ rfl ?_
  have hp : slicePicked z none none (some (-1, tk)) = (List.range z.cps.size).map fun k => z.cps.size - 1 - k := by
    show Builtin.Str.strSliceIndices none none (-1) z.length = _
    unfold Builtin.Str.strSliceIndices
    exact range_back z.length
  have hr : (⟨((slicePicked z none none (some (-1, tk))).filterMap (z.cps[·]?)).toArray⟩ : Str) = revS z := by
    rw [hp, filterMap_back]
    unfold revS
    congr 1
    apply Array.ext'
    simp
  show Made.post (if ((-1 : Int) == 1 && (slicePicked z none none (some (-1, tk))).length == z.length) = true then Made.val (.str z tz) else Made.str ⟨((slicePicked z none none (some (-1, tk))).filterMap (z.cps[·]?)).toArray⟩) (EP X pins σ Q) _
  rw [if_neg (by rw [show ((-1 : Int) == 1) = false by decide, Bool.false_and]; exact Bool.false_ne_true), hr]
  refine ⟨?_, .str _, H4, I5.tok _, ⟨_, rfl⟩, q⟩
  show (revS z).cps.size ≤ sizeLine
  unfold revS
  rw [Array.size_reverse]
  exact hz

section
variable {CX : CXT} {k : Nat} {f : Addr} {fd : FuncData} {ps ks : List Str} {sp : Sp} {E : XK} {x : Str} {p pos : Pos} {kws : List Keyword} {tk : TA} {g : List Value → List Value → List Value} {gV : List V → List V → List V}
def tCallK0 (sp : Sp) (gV : List V → List V → List V) (E : XK) (tk : TA) : TE := fun σ H Q => tk σ H fun zs H2 => sp (gV [] zs) H2 Q E
/-- f(k = v, ..), nothing by place -/
theorem pe_callK0 (F : FnOk X.prog X.w X.K X.mg X.base CX k f fd ps sp) (hr : Room k X.A) (hg : Gl X x) (hm : X.mg x = some (.ref f)) (hk : PySem.W.keepIn X.K (.ref f) = true) (hb : KBinds X.K fd ps ks g gV) (hx : Passes CX X E)
    (hkw : PK X kws tk) (hall : (backToKw pos (keywordEach kws X.env)).all (·.1.isSome) = true := by rfl) (hks : (backToKw pos (keywordEach kws X.env)).filterMap (·.1) = ks := by rfl)
    (hdb : (x == ("__debug__" : Str)) = false := by decide)
    (hpl : ((backTo pos (starEach [] X.env)).any (·.1) || (backToKw pos (keywordEach kws X.env)).any (·.1.isNone)) = false := by rfl) :
    PE X (.Call (.Name x p) [] kws pos) (tCallK0 sp gV E tk) := by
  refine ⟨fun pins s σ H Q I h => ?_⟩
  refine wpAny_Call_Name_kw (ld_glob I hg hm ?_ hdb)
  refine PySem.W.callWith_KW0 (h₀ := X.base) I.ok.mod.kin hk hall (thn (hkw.run pos pins s σ H _ I h) fun ws s2 ⟨zs, H2, I2, rz, q2⟩ => ⟨I2.kIn, ?_⟩) hpl
  rw [hks]
  exact run_fnk (us := []) (vs := []) F hr hb hx I2 .nil rz q2
end
end

/-- all parameters by keyword, in their order -/
def kAll {α : Type} : List α → List α → List α
  | [], zs => zs
  | _ :: _, _ => []
theorem kbinds_all {K : PySem.W.Frag} {fd : FuncData} {ps ks : List Str} (h0 : 0 < ps.length) (h : ∀ (s : Shared) (ws : List Value), K.In s.heap → ws.length = ps.length → BindsTo s fd ⟨[], ks.zip ws⟩ (ps.zip ws)) : KBinds K fd ps ks kAll kAll where
  to := fun s us ws hK hl => by
    cases us with
    | nil => exact h s ws hK hl
    | cons u r =>
      have z : (0 : Nat) = ps.length := hl
      omega
  rel := fun {vs us zs ws} r rz => by
    cases r with
    | nil => exact rz
    | cons _ _ => exact .nil

/-! ### places -/
theorem at0 {α : Type} {x : α} {xs : List α} : atI (x :: xs) 0 = some x := atI_nat (j := 0) rfl
theorem ix_nat {n j : Nat} (h : j < n) : ixN n (j : Int) = some j := by
  unfold ixN
  rw [if_pos (by omega), if_pos (by omega), Int.toNat_natCast]
theorem ix0 {n : Nat} (h : 0 < n) : ixN n 0 = some 0 := ix_nat h

/-! ### walks over a text -/
theorem lc_str {x : Str} {g : TG} {tt : TT} {te : TE} {vs : List Nat} {σ : L2.St} {H1 : Hp} {D : Addr} {Qd : Hp → Prop} (Pv : Nat → Hp → Prop) (h0 : Pv 0 (upd H1 D (.lst [])))
    (hs : ∀ i c H, x.cps.toList[i]? = some c → Pv i H → g (.str ⟨#[c]⟩) (wipe σ vs) H fun σ2 H2 => wipe σ2 vs = wipe σ vs ∧ tt σ2 H2 fun b H3 =>
      if b = true then te σ2 H3 fun y H4 => ∃ acc, H4 D = some (.lst acc) ∧ acc.length < sizeLine ∧ Pv (i + 1) (upd H4 D (.lst (acc ++ [y]))) else Pv (i + 1) H3) (hd : ∀ H, Pv x.cps.size H → Qd H) :
    ∃ W : Nat → Nat → Hp → Prop, (∃ m, W 0 m (upd H1 D (.lst []))) ∧ ∀ i m H, W i m H →
      ((Its x).stop i H ∧ Qd H) ∨ ((Its x).go i H ∧ ∃ Nx : Hp → Prop, (∀ H', Nx H' → ∃ m', m' < m ∧ W (i + 1) m' H') ∧ ∀ y H', (Its x).yld i H y H' → g y (wipe σ vs) H' fun σ2 H2 => wipe σ2 vs = wipe σ vs ∧ tt σ2 H2 fun b H3 =>
        if b = true then te σ2 H3 fun y H4 => ∃ acc, H4 D = some (.lst acc) ∧ acc.length < sizeLine ∧ Nx (upd H4 D (.lst (acc ++ [y]))) else Nx H3) := by
  refine ⟨fun i m H => m = x.cps.size - i ∧ i ≤ x.cps.size ∧ Pv i H, ⟨_, rfl, Nat.zero_le _, h0⟩, ?_⟩
  rintro i m H ⟨rfl, hi, p⟩
  by_cases hlt : i < x.cps.size
  · refine .inr ⟨hlt, Pv (i + 1), fun H' p' => ⟨x.cps.size - (i + 1), by omega, rfl, hlt, p'⟩, fun y H' q => ?_⟩
    obtain ⟨e, c, hc, ey⟩ := q
    subst e
    subst ey
    exact hs i c _ (by rw [Array.getElem?_toList]; exact hc) p
  · have e : i = x.cps.size := by omega
    subst e
    exact .inl ⟨Nat.le_refl _, hd H p⟩

/-! ### lists of ints, of texts as data -/
theorem dp_ints {K : PySem.W.Frag} {H : Hp} : ∀ ns : List Int, DpAll K H (ns.map V.int) (ns.map PyData.int)
  | [] => .nil
  | n :: r => .cons (.int n) (dp_ints r)
theorem dp_strs {K : PySem.W.Frag} {H : Hp} : ∀ ns : List Str, DpAll K H (ns.map V.str) (ns.map PyData.str)
  | [] => .nil
  | n :: r => .cons (.str n) (dp_strs r)
theorem shaped_ints (ns : List Int) : SeqAt.shaped (.list (ns.map PyData.int)) = true := PySem.W.ke_shaped_ints ns
theorem eqv_nil : PyData.eqv (.list []) (.list []) = true := by simp [PyData.eqv, PyData.eqvAll]
theorem eqv_cons {a : PyData} {r : List PyData} : PyData.eqv (.list (a :: r)) (.list []) = false := by simp [PyData.eqv, PyData.eqvAll]
theorem same_upd {H : Hp} {p : Addr} {o : HO} (h : H p = none) : Same H (upd H p o) := fun b x e => by
  rw [upd_ne (ne_of_none e h)]
  exact e
/-- what G doesn't know may change -/
theorem same_mut {G H : Hp} {p : Addr} {o : HO} (e : Same G H) (h : G p = none) : Same G (upd H p o) := fun b x q => by
  rw [upd_ne (ne_of_none q h)]
  exact e b x q
end My

/-! My own rules about instances of own classes: texts of them, making them by names and in a try, operators; errors with a dict in an except suite. -/
namespace My
open PySem PySem.Spec PyProof.Rows L2

section
variable {X : Cx}
/-! ### floor division by any divisor that is not 0 -/
def CDivZ (_ j : Int) : Prop := j ≠ 0 ∧ j.natAbs.log2 < 9000
theorem op_fdivZ : OpR X (binaryOp .FloorDiv) (rI CDivZ fun i j => .int (i.fdiv j)) := opI fun _ _ _ _ _ _ _ hc q => floordiv_int hc.1 q (.inl (PyProof.noPylong_of_log2 hc.2))
theorem cdivZ {i j : Int} (h : j ≠ 0) (hb : j.natAbs < 2 ^ 8000) : CDivZ i j := ⟨h, Nat.lt_of_lt_of_le (PySem.Flt.log2_lt_of (by decide) hb) (by decide)⟩

/-! ### str(o), o of an own class with __str__ -/
def rStrO (C : Addr) (sp : Sp) : List V → Hp → VK → Prop := fun xs H Q => ∃ a dx fs, xs = [.ref a] ∧ H a = some (.ins C dx fs) ∧ sp [.ref a] H (fun v H' => ∃ z, v = .str z ∧ Q (.str z) H') E0
theorem call_strO {CX : CXT} {k : Nat} {C f : Addr} {fd : FuncData} {ps : List Str} {sp : Sp} (hs : PySem.W.findIn X.K (.ref C) "__str__" = some (some (.ref f))) (hf : PySem.W.isFn X.K (.ref f) = true)
    (F : FnOk X.prog X.w X.K X.mg X.base CX k f fd ps sp) (hr : Room (k + 2) X.A) (hb : Binds X.K fd ps []) (hx : Passes CX X.nox E0) : CallR X (.type "str") (rStrO C sp) := by
  intro pins s σ H xs us Q I r h
  obtain ⟨a, dx, fs, rfl, ea, q⟩ := h
  obtain ⟨u, rfl, ru⟩ := vals1 r
  obtain rfl : u = Value.ref a := ru
  obtain ⟨mA, O, _, _, _, _⟩ := ins_get I.hok ea
  obtain ⟨od, J, _⟩ := O.look
  have hl : ([Value.ref a] ++ []).length = ps.length := by rw [← F.len _ _ _ _ q]; rfl
  refine PySem.W.kso_call hr.in1.in1.units0 I.kIn J hs hf (wpAny_call ?_)
  refine codeAny_mono (F.run X.A.in1.in1 X.stack s H ⟨[.ref a], []⟩ [.ref a] [.ref a] _ E0 hr.in1.in1 I.env0.in1.in1 (hb _ [.ref a] I.kIn hl) (.cons rfl .nil) q) fun r s' hq => ?_
  cases r with
  | error er => exact False.elim (hx pins σ H s er s' (I.wish _) hq)
  | ok fl =>
    cases fl with
    | ret u =>
      obtain ⟨v, H', I3, rv, z, ez, q3⟩ := I.after hq
      subst ez
      obtain ⟨t, rfl⟩ := rv
      exact ⟨.str z, H', I3, ⟨t, rfl⟩, q3⟩
    | next => exact False.elim hq
    | brk => exact False.elim hq
    | cont => exact False.elim hq

/-! ### C(k = v, ..), nothing by place -/
section
variable {CX : CXT} {k : Nat} {f C : Addr} {fd : FuncData} {ps ks : List Str} {sp : Sp} {E : XK} {x : Str} {p pos : Pos} {e : Expr} {es : List Expr} {kws : List Keyword} {t tk : TA} {g : List Value → List Value → List Value} {gV : List V → List V → List V}
theorem pe_makeK0 (M : Mk X.K C f) (F : FnOk X.prog X.w X.K X.mg X.base CX k f fd ps sp) (hr : Room (k + 1) X.A) (hg : Gl X x) (hm : X.mg x = some (.ref C)) (hb : KBn X.K fd ps (0 + 1) ks g gV) (hx : Passes CX X E)
    (hkw : PK X kws tk) (hall : (backToKw pos (keywordEach kws X.env)).all (·.1.isSome) = true := by rfl) (hks : (backToKw pos (keywordEach kws X.env)).filterMap (·.1) = ks := by rfl)
    (hdb : (x == ("__debug__" : Str)) = false := by decide)
    (hpl : ((backTo pos (starEach [] X.env)).any (·.1) || (backToKw pos (keywordEach kws X.env)).any (·.1.isNone)) = false := by rfl) :
    PE X (.Call (.Name x p) [] kws pos) (tMakeN C 0 ks.length sp gV E tNil tk) := by
  refine ⟨fun pins s σ H Q I h => ?_⟩
  refine wpAny_Call_Name_kw (ld_glob I hg hm ?_ hdb)
  refine PySem.W.callWith_KW0 (h₀ := X.base) I.ok.mod.kin M.kp hall (thn (hkw.run pos pins s σ H _ I h) fun ws s2 ⟨zs, H2, I2, rz, l1, l2, q2⟩ => ⟨I2.kIn, ?_⟩) hpl
  rw [hks]
  exact run_makeN M F hr hb hx I2 .nil rz rfl l2 q2

/-! ### cls(e, ..), the class under a name of the frame -/
def tMakeL (C : Addr) (i : Nat) (sp : Sp) (dvs : List V) (E : XK) (t : TA) : TE := fun σ H Q => σ[i]? = some (some (.ref C)) ∧ tMake C sp dvs E t σ H Q
theorem pe_makeL {i : Nat} {dvs : List V} {ds : List Value} (M : Mk X.K C f) (F : FnOk X.prog X.w X.K X.mg X.base CX k f fd ps sp) (hr : Room (k + 1) X.A) (hN : X.N[i]? = some x) (hv : Vis X.env.scope x) (hb : Binds X.K fd ps ds) (hd : Vals dvs ds) (hx : Passes CX X E)
    (ha : PA X (e :: es) t) (hd1 : (x == ("__debug__" : Str)) = false := by decide) (hcd : (x == ("__classdict__" : Str)) = false := by decide)
    (he : starEach (e :: es) X.env = (false, eval e X.env) :: starEach es X.env := by rfl) (hpl : (backTo pos (starEach es X.env)).any (·.1) = false := by rfl) :
    PE X (.Call (.Name x p) (e :: es) [] pos) (tMakeL C i sp dvs E t) := by
  refine ⟨fun pins s σ H Q I h => ?_⟩
  obtain ⟨hs, h⟩ := h
  refine wpAny_Call_Name_kw (thn ((pe_var (pos := p) hN hv hd1 hcd).run pins s σ H (fun v H1 => v = .ref C ∧ H1 = H) I ⟨.ref C, hs, rfl, rfl⟩) fun u s1 ⟨v, H1, I1, r1, q1⟩ => ?_)
  obtain ⟨rfl, rfl⟩ := q1
  cases r1
  refine PySem.W.callWith_K (h₀ := X.base) I.ok.mod.kin M.kp (thn (ha.run pos pins s1 σ _ _ I1 h) fun us s2 ⟨vs, H2, I2, r, q⟩ => ⟨I2.kIn, ?_⟩) he hpl
  exact run_make M F hr hb hd hx I2 r q

/-! ### C(e, ..) where what is raised is wished for at the caller's slots -/
def tMakeS (C : Addr) (sp : Sp) (dvs : List V) (E : L2.St → XK) (t : TA) : TE := fun σ H Q => tMake C sp dvs (E σ) t σ H Q
theorem run_makeS {pins : List (Addr × Obj)} {σ : L2.St} {H : Hp} {s : Shared} {Q : VK} {us : List Value} {vs : List V} {dvs : List V} {ds : List Value} (M : Mk X.K C f) (F : FnOk X.prog X.w X.K X.mg X.base CX k f fd ps sp) (hr : Room (k + 1) X.A) (hb : Binds X.K fd ps ds) (hd : Vals dvs ds)
    (hx : PassesAt CX X σ E) (I : Inv X pins σ H s) (r : Vals vs us)
    (h : ∀ x dx, H x = none → H dx = none → dx ≠ x → sp (.ref x :: (vs ++ dvs)) (upd (upd H dx (.own x)) x (.ins C dx [])) (fun v H2 => v = .non ∧ Q (.ref x) H2) E) :
    wpAny (model X.prog X.w) X.A (call (.ref C) us) (EP X pins σ Q) X.xe s := by
  have hq := h (s.heap.objs.size + 1) s.heap.objs.size (I.hok.fresh (Nat.le_succ _)) (I.hok.fresh (Nat.le_refl _)) (Nat.ne_of_lt (Nat.lt_succ_self _))
  have I2 := Inv.made (C := C) I
  have r2 : Vals (V.ref (s.heap.objs.size + 1) :: (vs ++ dvs)) (Value.ref (s.heap.objs.size + 1) :: (us ++ ds)) := .cons rfl (r.append hd)
  have hl : (Value.ref (s.heap.objs.size + 1) :: us ++ ds).length = ps.length := by
    have e := r2.length
    rw [F.len _ _ _ _ hq] at e
    exact e.symm
  refine wpAny_call (make_map (f := f) I.kIn M.makes M.init (beq_iff_eq.mp M.fn) (codeAny_mono (F.run _ X.stack _ _ ⟨Value.ref (s.heap.objs.size + 1) :: us, []⟩ (Value.ref (s.heap.objs.size + 1) :: (us ++ ds)) _ _ E (hr.make C us [])
    (I2.env0.make C us []) (hb _ (Value.ref (s.heap.objs.size + 1) :: us) I2.kIn hl) r2 hq) fun r s' hq' => ?_))
  cases r with
  | error e => exact hx pins _ _ e s' I2 hq'
  | ok fl =>
    cases fl with
    | ret u =>
      obtain ⟨v, H', I3, rv, ev, q3⟩ := I2.after hq'
      subst ev
      exact ⟨rv, ⟨V.ref (s.heap.objs.size + 1), H', I3, rfl, q3⟩⟩
    | next => exact False.elim hq'
    | brk => exact False.elim hq'
    | cont => exact False.elim hq'
theorem pe_makeS {E : L2.St → XK} {dvs : List V} {ds : List Value} (M : Mk X.K C f) (F : FnOk X.prog X.w X.K X.mg X.base CX k f fd ps sp) (hr : Room (k + 1) X.A) (hg : Gl X x) (hm : X.mg x = some (.ref C)) (hb : Binds X.K fd ps ds) (hd : Vals dvs ds) (hx : ∀ σ, PassesAt CX X σ (E σ))
    (ha : PA X (e :: es) t) (hdb : (x == ("__debug__" : Str)) = false := by decide) (he : starEach (e :: es) X.env = (false, eval e X.env) :: starEach es X.env := by rfl) (hpl : (backTo pos (starEach es X.env)).any (·.1) = false := by rfl) :
    PE X (.Call (.Name x p) (e :: es) [] pos) (tMakeS C sp dvs E t) := by
  refine ⟨fun pins s σ H Q I h => ?_⟩
  refine wpAny_Call_Name_kw (ld_glob I hg hm ?_ hdb)
  refine PySem.W.callWith_K (h₀ := X.base) I.ok.mod.kin M.kp (thn (ha.run pos pins s σ H _ I h) fun us s1 ⟨vs, H1, I1, r, q⟩ => ⟨I1.kIn, ?_⟩) he hpl
  exact run_makeS M F hr hb hd (hx σ) I1 r q
end

/-! ### C.m(k = v, ..), m a classmethod -/
section
variable {CX : CXT} {k : Nat} {C q0 g : Addr} {mc : Value} {fd : FuncData} {ps ks : List Str} {sp : Sp} {E : XK} {o : Expr} {m : Str} {pos apos : Pos} {kws : List Keyword} {ta : TE} {tk : TA} {pl : Sem Bool}
def tCMethK (C : Addr) (n : Nat) (sp : Sp) (E : XK) (ta : TE) (tk : TA) : TE := fun σ H Q => ta σ H fun x H1 => x = .ref C ∧ tk σ H1 fun zs H2 => zs.length = n ∧ sp (.ref C :: zs) H2 Q E
theorem pe_cmethK0 (he : PE X o ta) (r : ClX.CRead X.K C mc) (c : ClX.CMet X.K C mc m q0 g) (F : FnOk X.prog X.w X.K X.mg X.base CX k g fd ps sp) (hr : Room k X.A) (hx : Passes CX X E) (hkw : PK X kws tk)
    (hb : ∀ (s : Shared) (ws : List Value), X.K.In s.heap → ws.length = ks.length → BindsTo s fd ⟨Value.ref C :: [], ks.zip ws⟩ (ps.zip (Value.ref C :: ws)))
    (hall : (backToKw pos (keywordEach kws X.env)).all (·.1.isSome) = true := by rfl) (hks : (backToKw pos (keywordEach kws X.env)).filterMap (·.1) = ks := by rfl)
    (hpl : ((backTo pos (starEach [] X.env)).any (·.1) || (backToKw pos (keywordEach kws X.env)).any (·.1.isNone)) = false := by rfl)
    (ht : eval (.Call (.Attribute o m apos) [] kws pos) X.env = (do
      let ov ← eval o X.env
      standAt apos.atName
      let (f, first) ← holding [ov] (getMethod ov m pl)
      callWith pos f first (backTo pos (starEach [] X.env)) (backToKw pos (keywordEach kws X.env))) := by rfl) :
    PE X (.Call (.Attribute o m apos) [] kws pos) (tCMethK C ks.length sp E ta tk) := by
  refine ⟨fun pins s σ H Q I h => ?_⟩
  refine PySem.W.methodCall_KW (pl := pl) (thn (he.run pins s σ H _ I h) fun u s1 ⟨x, H1, I1, rx, ex, h2⟩ => ?_) ht
  subst ex
  obtain rfl : u = Value.ref C := rx
  refine ClX.getmethcm_ok I1 r c fun s2 I2 => ?_
  refine PySem.W.callWith_of hpl (PySem.W.keeps_M (K := X.K) (self := Value.ref C) c.fi) (evalArgs_kw2_nil hall (thn (hkw.run pos _ s2 σ H1 _ I2 h2) fun ws s3 ⟨zs, H2, I3, rz, hl, h3⟩ => ⟨⟨ClX.pin_at I3, I3.kIn⟩, ?_⟩))
  rw [hks]
  suffices z : wpAny (model X.prog X.w) X.A (call (.ref s1.heap.objs.size) [] (ks.zip ws)) (EP X ((s1.heap.objs.size, PySem.W.methodObj (.ref g) (.ref C)) :: pins) σ Q) X.xe s3 from thn z fun _ _ y => ClX.unpinE y
  refine wpAny_call (PySem.W.method_call (ClX.pin_at I3) ?_)
  have r2 : Vals (V.ref C :: zs) (Value.ref C :: ws) := .cons rfl rz
  refine codeAny_mono (F.run X.A X.stack s3 H2 ⟨Value.ref C :: [], ks.zip ws⟩ (Value.ref C :: ws) (V.ref C :: zs) Q E hr I3.env0 (hb s3 ws I3.kIn (rz.length.symm.trans hl)) r2 h3) fun r s' hq => ?_
  cases r with
  | error er => exact hx _ σ H2 s3 er s' I3 hq
  | ok fl =>
    cases fl with
    | ret u => exact I3.after hq
    | next => exact False.elim hq
    | brk => exact False.elim hq
    | cont => exact False.elim hq
end

/-! ### an error with a dict of its own, asked for its class in an except suite -/
theorem class_of_err {prog : Program} {w : World} {A : Around} {E : Value → Shared → Prop} {s : Shared} {K : PySem.W.Frag} {x D : Addr} {ox od : Obj} {Q : Option Value → Shared → Prop} (C : ExcC K D) (hK : K.In s.heap) (J : PySem.W.InstAt s.heap x ox D (some od))
    (h : Q (some (.ref D)) { s with toks := s.toks + 1 }) : wpAny (model prog w) A (getAttr? (.ref x) "__class__") Q E s := by
  have hcd : (PySem.W.clsIn K D).isSome = true := by
    obtain ⟨cd, hc, _⟩ := PySem.W.any_some C.hd
    rw [hc]
    rfl
  have hf : PySem.W.findObj K D (some od) "__class__" = some (.bind (.builtin "getset_descriptor.__get__") (.builtin "object.__class__")) := PySem.W.findObj_data hcd C.ha C.hn C.ht
  obtain ⟨hp, gg, dr, tt, os⟩ := s
  have T0 := J.type (M := model prog w)
  have T1 := PySem.W.looks_findIn (M := model prog w) hK C.hg
  have T2 := PySem.W.looks_findIn (M := model prog w) hK C.hk
  have T3 := PySem.W.looks_find (M := model prog w) hK J hf
  have below : PySem.W.Looks (model prog w) hp (isInstance (.ref x) (.type "BaseException")) true := T0.andThen (PySem.W.looks_subIn hK C.hs)
  have b0 : (false && onTheHeap (Value.builtin "BaseException.__getattribute__")) = false := rfl
  have b2 : (Value.builtin "BaseException.__getattribute__" == Value.builtin "object.__getattribute__") = false := by decide +kernel
  have b1 : (onTheHeap (Value.ref D) && Value.builtin "BaseException.__getattribute__" == Value.builtin "object.__getattribute__") = false := by rw [b2]; rfl
  unfold getAttr? getAttrBy? getAttrBy
  refine wpAny_bind (wpAny_mkText (wpAny_bind (wpAny_attempt (wpAny_holding (wpAny_bind (T0.at (wpAny_bind (T1.at ?_))))))))
  show wpAny _ _ (if (onTheHeap (Value.ref D) && Value.builtin "BaseException.__getattribute__" == Value.builtin "object.__getattribute__") = true then _ else _) _ _ _
  rw [b1, if_neg Bool.false_ne_true]
  unfold getAttrByItsOwn hookBefore
  refine wpAny_bind ?_
  rw [if_pos (show onTheHeap (Value.ref D) = true from rfl)]
  refine T2.at ?_
  refine wpAny_bind (wpAny_attempt (wpAny_holding ?_))
  unfold callGetattribute
  rw [b0, if_neg Bool.false_ne_true]
  unfold boundAndCalled
  rw [PySem.F.excAttr_ValueError.ga.bind (.ref x)]
  refine wpAny_bind (wpAny_pure ?_)
  show wpAny _ _ (call (.builtin "BaseException.__getattribute__") [.ref x, .str "__class__" tt]) _ _ _
  refine wpAny_call (codeAny_call_builtin PySem.F.excAttr_ValueError.ga.plain PySem.F.entry_bexc_ga ?_)
  refine @PySem.W.check_slot (model prog w) _ _ ⟨hp, gg, dr, tt + 1, os⟩ "BaseException.__getattribute__" "BaseException" "__getattribute__" (.ref x) [.str "__class__" tt] [] _ (by decide +kernel) (by decide +kernel) below (PySem.F.args_bexc_ga (.ref x) (.str "__class__" tt)) ?_
  unfold Builtin.«object.__getattribute__»
  refine wpAny_bind (wpAny_of_eq (a := ((Value.ref x : Value), [Value.str "__class__" tt])) (by first | rfl | (simp only [slotArgs]; rfl)) ?_)
  refine wpAny_bind (wpAny_pure (wpAny_bind (T0.at (wpAny_bind (T3.at ?_)))))
  show wpAny _ _ (holding [Value.builtin "object.__class__"] (call (.builtin "getset_descriptor.__get__") [.builtin "object.__class__", .ref x, .ref D]) >>= ret) _ _ _
  refine wpAny_bind (wpAny_holding (wpAny_call (PySem.W.class_get (s := ⟨hp, gg, dr, tt + 1, os⟩) (ox := ox) (od := some od) hK J C.hm ?_)))
  refine wpAny_pure ?_
  show wpAny _ _ (handedOut (.ref D)) _ _ _
  rw [PySem.W.handedOut_of (v := .ref D) rfl]
  first
    | exact wpAny_pure (wpAny_pure h)
    | exact wpAny_pure h
    | exact wpAny_pure (wpAny_bind (wpAny_pure (wpAny_pure h)))
theorem kit_err {K : PySem.W.Frag} {x D : Addr} {ox od : Obj} (C : ExcC K D) : PySem.W.KitX K (.ref x) (.ref D) (fun h => PySem.W.InstAt h x ox D (some od)) where
  ty := fun _ _ _ J => J.type
  it := fun _ _ hK _ => by
    obtain ⟨cdD, hcD, _⟩ := PySem.W.any_some C.hd
    unfold PySem.W.clsIn at hcD
    split at hcD
    · rename_i c' d' cd' sl' ho
      intro A' Q' E' s' kk q
      unfold isType loadHead
      exact wpAny_bind (wpAny_loadPart (kk _ _ (hK _ _ ho)) (wpAny_pure q))
    · cases hcD
  ne := fun h tp dd its n sl hK htp => by
    obtain ⟨cdD, hcD, _⟩ := PySem.W.any_some C.hd
    refine Bool.eq_false_iff.mpr fun q => ?_
    have e : D = tp := Value.ref.inj (beq_iff_eq.mp q)
    subst e
    unfold PySem.W.clsIn at hcD
    split at hcD
    · rename_i c' d' cd' sl' ho
      have z := (hK _ _ ho).symm.trans htp
      cases z
    · cases hcD
  ca := fun hK J q => class_of_err C hK J q
def rIsEd (K : PySem.W.Frag) (a : Addr) (cls : Value) (d : Option Addr) (D : Addr) : List V → Hp → VK → Prop := fun xs H Q => ∃ (c : V) (cv : Value) (b : Bool) (dd : Addr) (fs : List (Str × V)), xs = [.ref a, c] ∧ cls = .ref D ∧ d = some dd ∧ ClsV c cv ∧ PySem.W.kitOne K (.ref D) cv = some b ∧ H dd = some (.xd fs) ∧ Q (.bl b) H
theorem call_isEd {a D : Addr} {cls : Value} {d : Option Addr} {oe : Obj} {pn : List (Addr × Obj)} (C : ExcC X.K D) (hz : Zc cls d oe) (hf : ∃ vs, oe.data = .fields vs) : CallR (X.suite a ((a, oe) :: pn)) (.builtin "isinstance") (rIsEd X.K a cls d D) := by
  intro pins s σ H xs us Q I r h
  obtain ⟨c, cv, b, dd, fs, rfl, e1, e2, hcv, e, hd, q⟩ := h
  subst e1
  subst e2
  obtain ⟨u, w', rfl, ru, rw'⟩ := vals2 r
  obtain rfl : u = Value.ref a := ru
  obtain rfl := hcv.eq rw'
  obtain ⟨hget, _⟩ := I.pin (a, oe) (List.mem_append.mpr (.inl List.mem_cons_self))
  obtain ⟨vs, hv⟩ := hf
  have hx : ObjOk X.prog X.w H s.heap dd (.xd fs) := I.hok dd _ hd
  obtain ⟨mA, hns, hrel⟩ := hx
  obtain ⟨od, ho, hl⟩ := lookIn_ns hns
  have J : PySem.W.InstAt s.heap a oe D (some od) := ⟨hget, hz.1, by unfold PySem.W.notCls; rw [hv] <;> rfl, by rw [hz.2]; exact ho⟩
  exact PySem.W.kia_one (kit_err C) I.kIn J e (fun z => nomatch z) fun tk => ⟨.bl b, H, I.kept (t' := tk) fun _ _ z => z, rfl, q⟩
end

/-! ### isinstance by the written part; keywords in another order -/
theorem kit_self {K : PySem.W.Frag} {C : Addr} : PySem.W.kitOne K (.ref C) (.ref C) = some true := by
  unfold PySem.W.kitOne
  rw [if_pos (by simp)]
theorem kit_sub {K : PySem.W.Frag} {t : Value} {C : Addr} {b : Bool} (ic : PySem.W.isClsIn K C = true) (ty : PySem.W.typeIn K (.ref C) = some (.type "type")) (su : PySem.W.subIn K t (.ref C) = some b) (ne : t ≠ .ref C) : PySem.W.kitOne K t (.ref C) = some b := by
  unfold PySem.W.kitOne
  rw [if_neg (by simpa using ne)]
  show (if ((PySem.W.clsIn K C).isSome && PySem.W.typeIn K (.ref C) == some (.type "type")) = true then PySem.W.subIn K t (.ref C) else none) = some b
  rw [ty, show (PySem.W.clsIn K C).isSome = true from ic, if_pos (by simp)]
  exact su
theorem kit_not {K : PySem.W.Frag} {t : Value} {C : Addr} (ic : PySem.W.isClsIn K C = true) (ty : PySem.W.typeIn K (.ref C) = some (.type "type")) (su : PySem.W.subIn K t (.ref C) = some false) (ne : t ≠ .ref C) : PySem.W.kitOne K t (.ref C) = some false := kit_sub ic ty su ne
def permL {α : Type} (is : List Nat) (ws : List α) : List α := is.filterMap fun i => ws[i]?
theorem permL_rel (is : List Nat) {zs : List V} {ws : List Value} (r : Vals zs ws) : Vals (permL is zs) (permL is ws) := by
  induction is with
  | nil => exact .nil
  | cons i is ih =>
    unfold permL at ih ⊢
    rw [List.filterMap_cons, List.filterMap_cons]
    cases e : zs[i]? with
    | none =>
      rw [r.none_of e]
      exact ih
    | some x =>
      obtain ⟨u, hu, ru⟩ := r.get e
      rw [hu]
      exact .cons ru ih
end My

/-! My own rules about operators of own classes: + - * with an instance or an int on either side, in place, unary minus, == with either answer, != of two lists with the same items. -/
namespace My
open PySem PySem.Spec PyProof.Rows L2

section
variable {X : Cx} {CX : CXT} {k : Nat} {C f : Addr} {fd : FuncData} {ps : List Str} {sp : Sp} {E : XK}
theorem run_own {pins : List (Addr × Obj)} {s : Shared} {σ : L2.St} {H : Hp} {Q : VK} {us : List Value} {vs : List V} (F : FnOk X.prog X.w X.K X.mg X.base CX k f fd ps sp) (hr : Room k X.A) (hb : Binds X.K fd ps []) (hx : Passes CX X E)
    (I : Inv X pins σ H s) (r : Vals vs us) (h : sp vs H Q E) : wpAny (model X.prog X.w) X.A (call (.ref f) us) (EP X pins σ Q) X.xe s := by
  have hl : (us ++ []).length = ps.length := by
    rw [List.append_nil, ← F.len _ _ _ _ h]
    exact r.length.symm
  refine wpAny_call (codeAny_mono (F.run X.A X.stack s H ⟨us, []⟩ us vs _ E hr I.env0 (by
    have := hb s us I.kIn hl
    rw [List.append_nil] at this
    exact this) r h) fun r s' hq => ?_)
  cases r with
  | error e => exact hx pins σ H s e s' I hq
  | ok fl =>
    cases fl with
    | ret w => exact I.after hq
    | next => exact False.elim hq
    | brk => exact False.elim hq
    | cont => exact False.elim hq
/-- what is handed back is no NotImplemented -/
theorem back_of {pins : List (Addr × Obj)} {σ : L2.St} {Q : VK} {v : Value} {s : Shared} (h : EP X pins σ Q v s) : PySem.W.CmpBack (EP X pins σ Q) v s := by
  obtain ⟨x, H, I, r, q⟩ := id h
  cases x with
  | non => obtain rfl : v = Value.none := r; exact h
  | bl b => obtain rfl : v = Value.bool b := r; exact h
  | int i => obtain ⟨t, rfl⟩ := r; exact h
  | str i => obtain ⟨t, rfl⟩ := r; exact h
  | byt i => obtain ⟨t, rfl⟩ := r; exact h
  | flt i => obtain ⟨t, rfl⟩ := r; exact h
  | ref a => obtain rfl : v = Value.ref a := r; exact h
  | ty n => obtain rfl : v = Value.type n := r; exact h

/-! ### the unary minus -/
def rNegO (C : Addr) (sp : Sp) (E : XK) : V → Hp → VK → Prop := fun x H Q => ∃ a dx fs, x = .ref a ∧ H a = some (.ins C dx fs) ∧ sp [.ref a] H Q E
theorem un_negO (hs : PySem.W.findIn X.K (.ref C) "__neg__" = some (some (.ref f))) (hf : PySem.W.isFn X.K (.ref f) = true) (F : FnOk X.prog X.w X.K X.mg X.base CX k f fd ps sp) (hr : Room k X.A) (hb : Binds X.K fd ps []) (hx : Passes CX X E) :
    UnR X (unaryOp .USub) (rNegO C sp E) := by
  intro pins s σ H x v Q I rx h
  obtain ⟨a, dx, fs, rfl, ea, q⟩ := h
  obtain rfl : v = Value.ref a := rx
  obtain ⟨mA, J, _⟩ := ins_get I.hok ea
  obtain ⟨od, J, _⟩ := J.look
  obtain ⟨m, hF⟩ := I.fr
  exact PySem.W.ksp_neg hF I.ok.mod.kin J hs hf (run_own (vs := [V.ref a]) F hr hb hx I (.cons rfl .nil) q)

/-! ### the operators with two sides -/
/-- what of the text an operator must have -/
structure OpO (K : PySem.W.Frag) (C : Addr) (nm : String) (f g : Addr) : Prop where
  sf : PySem.W.selfFirst K C = true
  ls : PySem.W.findIn K (.ref C) (PySem.dunder nm) = some (some (.ref f))
  lf : PySem.W.isFn K (.ref f) = true
  rs : PySem.W.findIn K (.ref C) (dunderR nm) = some (some (.ref g))
  rf : PySem.W.isFn K (.ref g) = true
  i1 : ∃ fo, PySem.W.findIn K (.type "int") (PySem.dunder nm) = some fo
  i2 : ∃ ro, PySem.W.findIn K (.type "int") (dunderR nm) = some ro
  su : PySem.W.subIn K (.type "int") (.ref C) = some false
  us : PySem.W.subIn K (.ref C) (.type "int") = some false
/-- int declines -/
structure Dec (nm : String) (id : String) (B : Builtin) : Prop where
  slot : Slot "int" (PySem.dunder nm) id
  entry : entryFor table id = some B
  args : ∀ a b, argsOk id ⟨[a, b], []⟩
  fills : fillsNumberSlot (.type "int") nm = pure true
  body : ∀ (a : Int) (t : Tok) (l C dx : Addr), Meets (B ⟨[.int a t, .ref l], []⟩) (fun _ R s => s.heap.get? l = some (PySem.W.instObj C dx) ∧ R (.ok (.ret Value.notImplemented)) s)
theorem dec_add : Dec "add" "int.__add__" Builtin.«int.__add__» := ⟨F.slot_int_add, F.entry_int_add, F.args_int_add_2, F.fills_int_add, fun a t l C dx => .of_wp fun prog w A R s h => by obtain ⟨hp, g, d, tk, os⟩ := s; obtain ⟨hl, h⟩ := h; wp_walk; exact ⟨_, rfl, h⟩⟩
theorem dec_sub : Dec "sub" "int.__sub__" Builtin.«int.__sub__» := ⟨F.slot_int_sub, F.entry_int_sub, F.args_int_sub_2, F.fills_int_sub, fun a t l C dx => .of_wp fun prog w A R s h => by obtain ⟨hp, g, d, tk, os⟩ := s; obtain ⟨hl, h⟩ := h; wp_walk; exact ⟨_, rfl, h⟩⟩
theorem dec_mul : Dec "mul" "int.__mul__" Builtin.«int.__mul__» := ⟨F.slot_int_mul, F.entry_int_mul, F.args_int_mul_2, F.fills_int_mul, fun a t l C dx => .of_wp fun prog w A R s h => by obtain ⟨hp, g, d, tk, os⟩ := s; obtain ⟨hl, h⟩ := h; wp_walk; exact ⟨_, rfl, h⟩⟩

section
variable {prog : Program} {w : World} {A : Around} {Ex : Value → Shared → Prop} {s : Shared} {K : PySem.W.Frag} {C f g : Addr} {nm : String}
open PySem.W
theorem b1_own {x y : Addr} {odx ody : Option Obj} {ox oy : Obj} {Q : Value → Shared → Prop} (X : K.In s.heap) (O : OpO K C nm f g) (I : InstAt s.heap x ox C odx) (J : InstAt s.heap y oy C ody)
    (h : wpAny (model prog w) A (call (.ref f) [.ref x, .ref y]) (PySem.W.CmpBack Q) Ex s) : wpAny (model prog w) A (binaryOp1 nm (.ref x) (.ref y)) (fun r s' => ∃ v, r = some v ∧ Q v s') Ex s := by
  obtain ⟨cd, rest, hcd, hm⟩ := ksp_first O.sf
  unfold binaryOp1
  refine wpAny_bind (I.type.here (wpAny_bind (J.type.here (wpAny_bind ((fills_K X hcd hm O.ls).here ?_)))))
  simp only [beq_self_eq_true, if_true]
  refine wpAny_bind (wpAny_pure ?_)
  simp only [Bool.and_false, Bool.false_eq_true, if_false, Bool.false_and]
  refine wpAny_bind (wpAny_pure ?_)
  simp only [Bool.false_eq_true, if_false]
  refine wpAny_bind (m := tryMethod (.ref x) _ (.ref y)) (wpAny_mono (ksp_try X I O.ls O.lf h) (fun r s' hr => ?_) fun _ _ e => e)
  obtain ⟨v, rfl, hq⟩ := hr
  exact wpAny_pure ⟨v, rfl, hq⟩
theorem b1_int {x : Addr} {i : Int} {t : Tok} {odx : Option Obj} {ox : Obj} {Q : Value → Shared → Prop} (X : K.In s.heap) (O : OpO K C nm f g) (I : InstAt s.heap x ox C odx)
    (h : wpAny (model prog w) A (call (.ref f) [.ref x, .int i t]) (PySem.W.CmpBack Q) Ex s) : wpAny (model prog w) A (binaryOp1 nm (.ref x) (.int i t)) (fun r s' => ∃ v, r = some v ∧ Q v s') Ex s := by
  obtain ⟨cd, rest, hcd, hm⟩ := ksp_first O.sf
  obtain ⟨fo, h1⟩ := O.i1
  obtain ⟨ro, h2⟩ := O.i2
  have one := ksp_try X I O.ls O.lf h
  obtain ⟨hh, gg, d, tt, os⟩ := s
  have L1 : Looks (model prog w) hh (typeOf (.ref x)) (.ref C) := I.type
  have L2 : Looks (model prog w) hh (typeOf (.int i t)) (.type "int") := Looks.of_pure rfl
  have L3 : Looks (model prog w) hh (fillsNumberSlot (.ref C) nm) true := fills_K X hcd hm O.ls
  have L4 : Looks (model prog w) hh (fillsNumberSlot (.type "int") nm) ((fo.isSome && !isSeqSlot fo) || (ro.isSome && !isSeqSlot ro)) := ksp_fillsT X h1 h2
  have L5 : Looks (model prog w) hh (isSubtype (.type "int") (.ref C)) false := looks_subIn X O.su
  have L6 : Looks (model prog w) hh (numberSlotInPython (.ref C) nm) true := ksp_inPy X O.ls O.rs (.inr ⟨_, rfl⟩)
  have L7 : Looks (model prog w) hh (numberSlotInPython (.type "int") nm) false := Looks.of_pure rfl
  have L8 : Looks (model prog w) hh (typeLookup (.type "int") (dunderR nm)) ro := looks_findIn X h2
  generalize ((fo.isSome && !isSeqSlot fo) || (ro.isSome && !isSeqSlot ro)) = right at L4
  have hne : (Value.ref C == Value.type "int") = false := Bool.eq_false_iff.mpr fun q => by cases beq_iff_eq.mp q
  unfold binaryOp1
  refine wpAny_bind (L1.at (wpAny_bind (L2.at (wpAny_bind (L3.at ?_)))))
  simp only [hne, Bool.false_eq_true, if_false]
  cases right with
  | false =>
    ksp_lk
    refine wpAny_mono one (fun r s' hr' => ?_) fun _ _ e => e
    obtain ⟨v, rfl, hq⟩ := hr'
    ksp_lk
    exact ⟨v, rfl, hq⟩
  | true =>
    ksp_lk
    refine wpAny_mono one (fun r s' hr' => ?_) fun _ _ e => e
    obtain ⟨v, rfl, hq⟩ := hr'
    ksp_lk
    exact ⟨v, rfl, hq⟩
theorem b1_rint {x dx : Addr} {i : Int} {t : Tok} {odx : Option Obj} {id : String} {B : Builtin} {Q : Value → Shared → Prop} (D : Dec nm id B) (X : K.In s.heap) (O : OpO K C nm f g) (I : InstAt s.heap x (instObj C dx) C odx)
    (h : wpAny (model prog w) A (call (.ref g) [.ref x, .int i t]) (PySem.W.CmpBack Q) Ex s) : wpAny (model prog w) A (binaryOp1 nm (.int i t) (.ref x)) (fun r s' => ∃ v, r = some v ∧ Q v s') Ex s := by
  obtain ⟨cd, rest, hcd, hm⟩ := ksp_first O.sf
  have one := ksp_try X I O.rs O.rf h
  have two : wpAny (model prog w) A (tryMethod (.int i t) (PySem.dunder nm) (.ref x)) (fun r s' => r = none ∧ s' = s) Ex s :=
    wpAny_tryMethod_declines (typeIs_int s i t) D.slot (call_meets D.slot (typeIs_int s i t) D.entry (D.args _ _) (D.body i t x C dx) ⟨I.at_, rfl, rfl, rfl⟩)
  have L1 : Looks (model prog w) s.heap (typeOf (.ref x)) (.ref C) := I.type
  have L3 : Looks (model prog w) s.heap (fillsNumberSlot (.ref C) nm) true := fills_K X hcd hm O.ls
  have L5 : Looks (model prog w) s.heap (isSubtype (.ref C) (.type "int")) false := looks_subIn X O.us
  have hne : (Value.type "int" == Value.ref C) = false := Bool.eq_false_iff.mpr fun q => by cases beq_iff_eq.mp q
  have hpy : numberSlotInPython (.type "int") nm = pure false := rfl
  unfold binaryOp1
  refine wpAny_bind (wpAny_typeOf (typeIs_int s i t) (wpAny_bind (L1.here (wpAny_bind (wpAny_of_eq D.fills ?_)))))
  simp only [hne, Bool.false_eq_true, if_false]
  refine wpAny_bind (L3.here ?_)
  simp only [Bool.and_self, if_true]
  refine wpAny_bind (L5.here ?_)
  simp only [Bool.false_eq_true, if_false, pure_bind, Bool.not_false, Bool.and_self, if_true, hpy]
  refine wpAny_bind (wpAny_mono two (fun r s' hr => ?_) fun _ _ e => e)
  obtain ⟨rfl, rfl⟩ := hr
  refine wpAny_bind (wpAny_mono one (fun r s' hr => ?_) fun _ _ e => e)
  obtain ⟨v, rfl, hq⟩ := hr
  ksp_lk
  exact ⟨v, rfl, hq⟩
end

/-! ### the operators as rules -/
section
variable {X : Cx} {CX CX' : CXT} {k k' : Nat} {C f g : Addr} {fd fd' : FuncData} {ps ps' : List Str} {sp sp' : Sp} {E : XK} {op : Operator}
theorem op_or {F : Value → Value → Sem Value} {r1 r2 : R2} (a : OpR X F r1) (b : OpR X F r2) : OpR X F (fun x y H Q => r1 x y H Q ∨ r2 x y H Q) := by
  intro pins s σ H x y v u Q I rx ry h
  rcases h with h | h
  · exact a pins s σ H x y v u Q I rx ry h
  · exact b pins s σ H x y v u Q I rx ry h
theorem un_or {F : Value → Sem Value} {r1 r2 : V → Hp → VK → Prop} (a : UnR X F r1) (b : UnR X F r2) : UnR X F (fun x H Q => r1 x H Q ∨ r2 x H Q) := by
  intro pins s σ H x v Q I rx h
  rcases h with h | h
  · exact a pins s σ H x v Q I rx h
  · exact b pins s σ H x v Q I rx h
def rOO (C : Addr) (sp : Sp) (E : XK) : R2 := fun x y H Q => ∃ a dx fs b dy gs, x = .ref a ∧ y = .ref b ∧ H a = some (.ins C dx fs) ∧ H b = some (.ins C dy gs) ∧ sp [.ref a, .ref b] H Q E
def rOI (C : Addr) (sp : Sp) (E : XK) : R2 := fun x y H Q => ∃ a dx fs i, x = .ref a ∧ y = .int i ∧ H a = some (.ins C dx fs) ∧ sp [.ref a, .int i] H Q E
def rIO (C : Addr) (sp : Sp) (E : XK) : R2 := fun x y H Q => ∃ b dy gs i, x = .int i ∧ y = .ref b ∧ H b = some (.ins C dy gs) ∧ sp [.ref b, .int i] H Q E
theorem b1_oo {nm : String} (O : OpO X.K C nm f g) (F : FnOk X.prog X.w X.K X.mg X.base CX k f fd ps sp) (hr : Room k X.A) (hb : Binds X.K fd ps []) (hx : Passes CX X E)
    {pins : List (Addr × Obj)} {s : Shared} {σ : L2.St} {H : Hp} {x y : V} {v u : Value} {Q : VK} (I : Inv X pins σ H s) (rx : RelV x v) (ry : RelV y u) (h : rOO C sp E x y H Q) :
    wpAny (model X.prog X.w) X.A (binaryOp1 nm v u) (fun r s' => ∃ z, r = some z ∧ EP X pins σ Q z s') X.xe s := by
  obtain ⟨a, dx, fs, b, dy, gs, rfl, rfl, ea, eb, q⟩ := h
  obtain rfl : v = Value.ref a := rx
  obtain rfl : u = Value.ref b := ry
  obtain ⟨mA, J, _⟩ := ins_get I.hok ea
  obtain ⟨od, J, _⟩ := J.look
  obtain ⟨mB, J', _⟩ := ins_get I.hok eb
  obtain ⟨od', J', _⟩ := J'.look
  exact b1_own I.kIn O J J' (wpAny_mono (run_own (vs := [V.ref a, V.ref b]) F hr hb hx I (.cons rfl (.cons rfl .nil)) q) (fun _ _ z => back_of z) fun _ _ e => e)
theorem b1_oi {nm : String} (O : OpO X.K C nm f g) (F : FnOk X.prog X.w X.K X.mg X.base CX k f fd ps sp) (hr : Room k X.A) (hb : Binds X.K fd ps []) (hx : Passes CX X E)
    {pins : List (Addr × Obj)} {s : Shared} {σ : L2.St} {H : Hp} {x y : V} {v u : Value} {Q : VK} (I : Inv X pins σ H s) (rx : RelV x v) (ry : RelV y u) (h : rOI C sp E x y H Q) :
    wpAny (model X.prog X.w) X.A (binaryOp1 nm v u) (fun r s' => ∃ z, r = some z ∧ EP X pins σ Q z s') X.xe s := by
  obtain ⟨a, dx, fs, i, rfl, rfl, ea, q⟩ := h
  obtain rfl : v = Value.ref a := rx
  obtain ⟨t, rfl⟩ := ry
  obtain ⟨mA, J, _⟩ := ins_get I.hok ea
  obtain ⟨od, J, _⟩ := J.look
  exact b1_int I.kIn O J (wpAny_mono (run_own (vs := [V.ref a, V.int i]) F hr hb hx I (.cons rfl (.cons ⟨t, rfl⟩ .nil)) q) (fun _ _ z => back_of z) fun _ _ e => e)
theorem b1_io {nm : String} {id : String} {B : Builtin} (D : Dec nm id B) (O : OpO X.K C nm f g) (F : FnOk X.prog X.w X.K X.mg X.base CX k g fd ps sp) (hr : Room k X.A) (hb : Binds X.K fd ps []) (hx : Passes CX X E)
    {pins : List (Addr × Obj)} {s : Shared} {σ : L2.St} {H : Hp} {x y : V} {v u : Value} {Q : VK} (I : Inv X pins σ H s) (rx : RelV x v) (ry : RelV y u) (h : rIO C sp E x y H Q) :
    wpAny (model X.prog X.w) X.A (binaryOp1 nm v u) (fun r s' => ∃ z, r = some z ∧ EP X pins σ Q z s') X.xe s := by
  obtain ⟨b, dx, fs, i, rfl, rfl, ea, q⟩ := h
  obtain rfl : u = Value.ref b := ry
  obtain ⟨t, rfl⟩ := rx
  obtain ⟨mA, J, _⟩ := ins_get I.hok ea
  obtain ⟨od, J, _⟩ := J.look
  exact b1_rint D I.kIn O J (wpAny_mono (run_own (vs := [V.ref b, V.int i]) F hr hb hx I (.cons rfl (.cons ⟨t, rfl⟩ .nil)) q) (fun _ _ z => back_of z) fun _ _ e => e)
theorem bin_of {M : Model} {A : Around} {Ex : Value → Shared → Prop} {s : Shared} {nm : String} (hn : op.info.2 = nm) {v u : Value} {R : Value → Shared → Prop} (h : wpAny M A (binaryOp1 nm v u) (fun r s' => ∃ z, r = some z ∧ R z s') Ex s) : wpAny M A (binaryOp op v u) R Ex s := by
  unfold binaryOp
  refine wpAny_holding (wpAny_bind ?_)
  subst hn
  refine wpAny_mono (show wpAny M A (binaryOp1 op.info.2 v u) _ _ _ from h) (fun r s' hr => ?_) fun _ _ e => e
  obtain ⟨z, rfl, q⟩ := hr
  exact wpAny_pure q
theorem op_oo {nm : String} (hn : op.info.2 = nm) (O : OpO X.K C nm f g) (F : FnOk X.prog X.w X.K X.mg X.base CX k f fd ps sp) (hr : Room k X.A) (hb : Binds X.K fd ps []) (hx : Passes CX X E) : OpR X (binaryOp op) (rOO C sp E) :=
  fun _ _ _ _ _ _ _ _ _ I rx ry h => bin_of hn (b1_oo O F hr hb hx I rx ry h)
theorem op_oi {nm : String} (hn : op.info.2 = nm) (O : OpO X.K C nm f g) (F : FnOk X.prog X.w X.K X.mg X.base CX k f fd ps sp) (hr : Room k X.A) (hb : Binds X.K fd ps []) (hx : Passes CX X E) : OpR X (binaryOp op) (rOI C sp E) :=
  fun _ _ _ _ _ _ _ _ _ I rx ry h => bin_of hn (b1_oi O F hr hb hx I rx ry h)
theorem op_io {nm : String} {id : String} {B : Builtin} (hn : op.info.2 = nm) (D : Dec nm id B) (O : OpO X.K C nm f g) (F : FnOk X.prog X.w X.K X.mg X.base CX k g fd ps sp) (hr : Room k X.A) (hb : Binds X.K fd ps []) (hx : Passes CX X E) : OpR X (binaryOp op) (rIO C sp E) :=
  fun _ _ _ _ _ _ _ _ _ I rx ry h => bin_of hn (b1_io D O F hr hb hx I rx ry h)
/-! ### in place, without a method of its own for it -/
structure NoI (K : PySem.W.Frag) (C : Addr) (nm : String) : Prop where
  mro : ∃ cd, PySem.W.clsIn K C = some cd ∧ cd.mro = [.ref C, .type "object"]
  own : PySem.W.findIn K (.ref C) (dunderI nm) = some none
  obj : PySem.W.findIn K (.type "object") (dunderI nm) = some none
open PySem.W in
theorem looks_noI {M : Model} {h : Heap} {nm : String} {add : Bool} {K : Frag} (X : K.In h) (N : NoI K C nm) : Looks M h (fillsInplaceSlot (.ref C) nm add) false := by
  intro A Q E s k q
  obtain ⟨cd, hc, hm⟩ := N.mro
  have Lm : Looks M h (mroOf (.ref C)) cd.mro := (looks_clsIn X hc).andThen (f := fun cd => pure cd.mro) .now
  have Lm' := Lm.keeps k
  obtain ⟨hh, g, d, tt, os⟩ := s
  have X' : K.In hh := X.keeps k
  have L1 : Looks M hh (typeLookup (.ref C) (dunderI nm)) none := looks_findIn X' N.own
  have L2 : Looks M hh (typeLookup (.type "object") (dunderI nm)) none := looks_findIn X' N.obj
  unfold fillsInplaceSlot
  refine wpAny_bind (Lm'.at ?_)
  rw [hm, List.anyM_cons]
  refine wpAny_bind (wpAny_bind (L1.at ?_))
  refine wpAny_pure ?_
  rw [if_neg Bool.false_ne_true, List.anyM_cons]
  refine wpAny_bind (wpAny_bind (L2.at ?_))
  refine wpAny_pure ?_
  rw [if_neg Bool.false_ne_true]
  exact wpAny_pure q
theorem inp_of {M : Model} {A : Around} {Ex : Value → Shared → Prop} {s : Shared} {nm : String} {K : PySem.W.Frag} {a dx : Addr} {ox : Obj} {od : Option Obj} (hn : op.info.2 = nm) (X : K.In s.heap) (I : PySem.W.InstAt s.heap a ox C od) (N : NoI K C nm) {u : Value} {R : Value → Shared → Prop}
    (h : wpAny M A (binaryOp1 nm (.ref a) u) (fun r s' => ∃ z, r = some z ∧ R z s') Ex s) : wpAny M A (inplaceOp op (.ref a) u) R Ex s := by
  subst hn
  unfold inplaceOp
  refine wpAny_holding ?_
  refine wpAny_bind (I.type.here ?_)
  refine wpAny_bind ((looks_noI X N).here ?_)
  rw [if_neg Bool.false_ne_true]
  refine wpAny_bind (wpAny_mono h (fun r s' hr => ?_) fun _ _ e => e)
  obtain ⟨z, rfl, q⟩ := hr
  exact wpAny_pure q
theorem iop_oo {nm : String} (hn : op.info.2 = nm) (N : NoI X.K C nm) (O : OpO X.K C nm f g) (F : FnOk X.prog X.w X.K X.mg X.base CX k f fd ps sp) (hr : Room k X.A) (hb : Binds X.K fd ps []) (hx : Passes CX X E) : OpR X (inplaceOp op) (rOO C sp E) := by
  intro pins s σ H x y v u Q I rx ry h
  have h' := b1_oo O F hr hb hx I rx ry h
  obtain ⟨a, dx, fs, b, dy, gs, rfl, rfl, ea, eb, q⟩ := h
  obtain rfl : v = Value.ref a := rx
  obtain ⟨mA, J, _⟩ := ins_get I.hok ea
  obtain ⟨od, J, _⟩ := J.look
  exact inp_of (dx := dx) hn I.kIn J N h'
theorem iop_oi {nm : String} (hn : op.info.2 = nm) (N : NoI X.K C nm) (O : OpO X.K C nm f g) (F : FnOk X.prog X.w X.K X.mg X.base CX k f fd ps sp) (hr : Room k X.A) (hb : Binds X.K fd ps []) (hx : Passes CX X E) : OpR X (inplaceOp op) (rOI C sp E) := by
  intro pins s σ H x y v u Q I rx ry h
  have h' := b1_oi O F hr hb hx I rx ry h
  obtain ⟨a, dx, fs, i, rfl, rfl, ea, q⟩ := h
  obtain rfl : v = Value.ref a := rx
  obtain ⟨mA, J, _⟩ := ins_get I.hok ea
  obtain ⟨od, J, _⟩ := J.look
  exact inp_of (dx := dx) hn I.kIn J N h'
/-! ### == by the class's own method, with either answer -/
theorem cmp_own (hs : PySem.W.findIn X.K (.ref C) "__eq__" = some (some (.ref f))) (hf : PySem.W.isFn X.K (.ref f) = true) (F : FnOk X.prog X.w X.K X.mg X.base CX k f fd ps sp) (hr : Room k X.A) (hb : Binds X.K fd ps []) (hx : Passes CX X E) : OpR X (compareOp .Eq) (rOO C sp E) := by
  intro pins s σ H x y v u Q I rx ry h
  obtain ⟨a, dx, fs, b, dy, gs, rfl, rfl, ea, eb, q⟩ := h
  obtain rfl : v = Value.ref a := rx
  obtain rfl : u = Value.ref b := ry
  obtain ⟨mA, J, _⟩ := ins_get I.hok ea
  obtain ⟨od, J, _⟩ := J.look
  obtain ⟨mB, J', _⟩ := ins_get I.hok eb
  obtain ⟨od', J', _⟩ := J'.look
  obtain ⟨m, hF⟩ := I.fr
  show wpAny (model X.prog X.w) X.A (richCompare .Eq (.ref a) (.ref b)) (EP X pins σ Q) X.xe s
  refine PySem.W.cmp_K (op := .Eq) (tb := .ref C) hr.units0 hF I.ok.mod.kin J J'.type (by simp [PySem.W.notFirst]) hs hf ?_
  exact wpAny_mono (run_own (vs := [V.ref a, V.ref b]) F hr hb hx I (.cons rfl (.cons rfl .nil)) q) (fun _ _ z => back_of z) fun _ _ e => e
/-! ### != of two lists with the same items -/
def plainV : V → Bool
  | .int _ => true
  | .ref _ => true
  | _ => false
def rNeSame (K : PySem.W.Frag) : R2 := fun x y H Q => ∃ a b xs, x = .ref a ∧ y = .ref b ∧ SqL K H a xs ∧ SqL K H b xs ∧ (∀ z ∈ xs, plainV z = true) ∧ Q (.bl false) H
theorem eqAt_same {A : Around} {s : Shared} {z : V} {u v : Value} (h : plainV z = true) (r : RelV z u) (r' : RelV z v) : SeqAt.EqAt A s u v true := by
  cases z with
  | int i =>
    have := eqAt_V (A := A) (s := s) r r' rfl rfl
    have e : eqV (.int i) (.int i) = true := by simp [eqV]
    rw [e] at this
    exact this
  | ref a =>
    obtain rfl : u = Value.ref a := r
    obtain rfl : v = Value.ref a := r'
    exact SeqAt.EqAt.same _
  | _ => cases h
theorem op_neSame (hu : X.A.units < cLine) : OpR X (compareOp .NotEq) (rNeSame X.K) := by
  intro pins s σ H x y v u Q I rx ry h
  obtain ⟨a, b, xs, rfl, rfl, ha, hb, hp, q⟩ := h
  obtain rfl : v = Value.ref a := rx
  obtain rfl : u = Value.ref b := ry
  obtain ⟨its, r, ⟨o, n, e, c, d, dt⟩, _⟩ := I.list ha
  obtain ⟨its2, r2, ⟨o2, n2, e2, c2, d2, dt2⟩, _⟩ := I.list hb
  have hsz : its.toArray.size = its2.toArray.size := by rw [List.size_toArray, List.size_toArray, ← r.length, ← r2.length]
  show wpAny (model X.prog X.w) X.A (richCompare .NotEq (.ref a) (.ref b)) (EP X pins σ Q) X.xe s
  refine SeqAt.RcNeAt.lists (e := fun _ => true) ⟨o, e, c, n, dt⟩ ⟨o2, e2, c2, n2, dt2⟩ hsz hu (fun j h1 h2 => ?_) _ _ _ _ ?_
  · have k1 : j < xs.length := by rw [r.length]; simpa using h1
    obtain ⟨w1, hw1, rw1⟩ := r.get (List.getElem?_eq_getElem k1)
    obtain ⟨w2, hw2, rw2⟩ := r2.get (List.getElem?_eq_getElem k1)
    have g1 : its[j]? = some its.toArray[j] := by
      have h1' : j < its.length := by simpa using h1
      rw [List.getElem?_eq_getElem h1'] <;> simp
    have g2 : its2[j]? = some its2.toArray[j] := by
      have h2' : j < its2.length := by simpa using h2
      rw [List.getElem?_eq_getElem h2'] <;> simp
    rw [g1] at hw1
    rw [g2] at hw2
    rw [Option.some.inj hw1, Option.some.inj hw2]
    exact eqAt_same (hp _ (List.getElem_mem k1)) rw1 rw2
  · have e : (!(List.range its.toArray.size).all fun _ => true) = false := by simp
    rw [e]
    exact ⟨.bl false, H, I, rfl, q⟩
end
/-! ### list or tuple -/
section
variable {X : Cx}
theorem ix_or {r1 r2 : R2} (a : IxR X r1) (b : IxR X r2) : IxR X (fun x y H Q => r1 x y H Q ∨ r2 x y H Q) := by
  intro value slice pins s σ H x y v u Q I rx ry h
  rcases h with h | h
  · exact a value slice pins s σ H x y v u Q I rx ry h
  · exact b value slice pins s σ H x y v u Q I rx ry h
def iSeq (K : PySem.W.Frag) (tl : TE) : TI := fun σ H R => tl σ H fun x H1 => ∃ a, x = .ref a ∧ (((∃ xs, SqL K H1 a xs) ∧ R (Itl K a) H1) ∨ ((∃ xs, SqT K H1 a xs) ∧ R (Itt K a) H1))
theorem pi_seq {tg l : Expr} {tl : TE} (hl : PE X l tl) : PI X tg l (iSeq X.K tl) := by
  refine ⟨fun pins s σ H R I h => ?_⟩
  refine thn (hl.run pins s σ H _ I h) fun v s1 ⟨x, H1, I1, r1, q1⟩ => ?_
  obtain ⟨a, e, ⟨⟨xs, hq⟩, q⟩ | ⟨⟨xs, hq⟩, q⟩⟩ := q1
  · subst e
    cases r1
    obtain ⟨its, rv, p, hz⟩ := I1.list hq
    refine wpAny_pyIter_list p.isList ?_
    refine ⟨s1.heap.objs.size, [s1.heap.objs.size], _, _, H1, rfl, I1.kept (t' := s1.toks) fun b o e => Heap.get?_push_of_some _ e, turn_list a _, ⟨_, Heap.get?_push_size _ rfl, rfl, rfl⟩, fun b hb => ?_, q⟩
    have e : b = s1.heap.objs.size := by simpa using hb
    subst e
    exact I1.fpOk (Nat.le_refl _) (I1.hok.fresh (Nat.le_refl _))
  · subst e
    cases r1
    obtain ⟨its, rv, p, hz⟩ := I1.tuple hq
    refine wpAny_pyIter_tuple (show s1.heap.IsTuple a its.toArray from p) ?_
    refine ⟨s1.heap.objs.size, [s1.heap.objs.size], _, _, H1, rfl, I1.kept (t' := s1.toks) fun b o e => Heap.get?_push_of_some _ e, turn_tuple a _, ⟨_, Heap.get?_push_size _ rfl, rfl, rfl⟩, fun b hb => ?_, q⟩
    have e : b = s1.heap.objs.size := by simpa using hb
    subst e
    exact I1.fpOk (Nat.le_refl _) (I1.hok.fresh (Nat.le_refl _))
end
end
end My

/-! My own rules about calls that raise: by keywords alone, at the caller's slots; through a def's body. -/
namespace My
open PySem PySem.Spec PyProof.Rows L2
section
variable {X : Cx} {CX : CXT} {k : Nat} {f : Addr} {fd : FuncData} {ps ks : List Str} {sp : Sp} {E : L2.St → XK} {x : Str} {p pos : Pos} {kws : List Keyword} {tk : TA} {g : List Value → List Value → List Value} {gV : List V → List V → List V}
theorem run_fnkS {pins : List (Addr × Obj)} {σ : L2.St} {H : Hp} {s : Shared} {Q : VK} {us ws : List Value} {vs zs : List V} (F : FnOk X.prog X.w X.K X.mg X.base CX k f fd ps sp) (hr : Room k X.A) (hb : KBinds X.K fd ps ks g gV) (hx : PassesAt CX X σ (E σ))
    (I : Inv X pins σ H s) (r : Vals vs us) (rz : Vals zs ws) (h : sp (gV vs zs) H Q (E σ)) : wpAny (model X.prog X.w) X.A (call (.ref f) us (ks.zip ws)) (EP X pins σ Q) X.xe s := by
  have r2 := hb.rel r rz
  have hl : (g us ws).length = ps.length := by rw [← r2.length]; exact F.len _ _ _ _ h
  refine wpAny_call (codeAny_mono (F.run X.A X.stack s H ⟨us, ks.zip ws⟩ (g us ws) (gV vs zs) Q (E σ) hr I.env0 (hb.to s us ws I.kIn hl) r2 h) fun r s' hq => ?_)
  cases r with
  | error e => exact hx pins H s e s' I hq
  | ok fl =>
    cases fl with
    | ret u => exact I.after hq
    | next => exact False.elim hq
    | brk => exact False.elim hq
    | cont => exact False.elim hq
def tCallK0S (sp : Sp) (gV : List V → List V → List V) (E : L2.St → XK) (tk : TA) : TE := fun σ H Q => tk σ H fun zs H2 => sp (gV [] zs) H2 Q (E σ)
theorem pe_callK0S (F : FnOk X.prog X.w X.K X.mg X.base CX k f fd ps sp) (hr : Room k X.A) (hg : Gl X x) (hm : X.mg x = some (.ref f)) (hk : PySem.W.keepIn X.K (.ref f) = true) (hb : KBinds X.K fd ps ks g gV) (hx : ∀ σ, PassesAt CX X σ (E σ))
    (hkw : PK X kws tk) (hall : (backToKw pos (keywordEach kws X.env)).all (·.1.isSome) = true := by rfl) (hks : (backToKw pos (keywordEach kws X.env)).filterMap (·.1) = ks := by rfl)
    (hdb : (x == ("__debug__" : Str)) = false := by decide)
    (hpl : ((backTo pos (starEach [] X.env)).any (·.1) || (backToKw pos (keywordEach kws X.env)).any (·.1.isNone)) = false := by rfl) :
    PE X (.Call (.Name x p) [] kws pos) (tCallK0S sp gV E tk) := by
  refine ⟨fun pins s σ H Q I h => ?_⟩
  refine wpAny_Call_Name_kw (ld_glob I hg hm ?_ hdb)
  refine PySem.W.callWith_KW0 (h₀ := X.base) I.ok.mod.kin hk hall (thn (hkw.run pos pins s σ H _ I h) fun ws s2 ⟨zs, H2, I2, rz, q2⟩ => ⟨I2.kIn, ?_⟩) hpl
  rw [hks]
  exact run_fnkS (us := []) (vs := []) F hr hb (hx σ) I2 .nil rz q2
end
section
variable {X : Cx} {E E' : XK}
/-- what a callee lets out leaves this def too -/
theorem passX (tk : Takes X (fun cls d _ H => E cls d H)) : Passes (L2.CX X.prog X.w) X E := fun pins σ H s e s' I c => L2.passes_call tk (fun _ _ _ _ h => h) pins σ H s e s' I c
end
end My

/-! My own rules: != by object.__ne__ over an own ==, x is a bool, o.m(k = v). -/
namespace My
open PySem PySem.Spec PyProof.Rows L2

section
variable {X : Cx} {CX : CXT} {k : Nat} {C f : Addr} {fd : FuncData} {ps : List Str} {sp : Sp} {E : XK}
/-- a method run below a built-in -/
theorem run_own1 {pins : List (Addr × Obj)} {s : Shared} {σ : L2.St} {H : Hp} {Q : VK} {us : List Value} {vs : List V} (F : FnOk X.prog X.w X.K X.mg X.base CX k f fd ps sp) (hr : Room (k + 1) X.A) (hb : Binds X.K fd ps []) (hx : Passes CX X E)
    (I : Inv X pins σ H s) (r : Vals vs us) (h : sp vs H Q E) : wpAny (model X.prog X.w) X.A.in1 (call (.ref f) us) (EP X pins σ Q) X.xe s := by
  have hl : (us ++ []).length = ps.length := by
    rw [List.append_nil, ← F.len _ _ _ _ h]
    exact r.length.symm
  refine wpAny_call (codeAny_mono (F.run X.A.in1 X.stack s H ⟨us, []⟩ us vs _ E hr.in1 I.env0.in1 (by
    have := hb s us I.kIn hl
    rw [List.append_nil] at this
    exact this) r h) fun r s' hq => ?_)
  cases r with
  | error e => exact hx pins σ H s e s' I hq
  | ok fl =>
    cases fl with
    | ret w => exact I.after hq
    | next => exact False.elim hq
    | brk => exact False.elim hq
    | cont => exact False.elim hq
/-- C has no != of its own -/
structure NoNe (K : PySem.W.Frag) (C f : Addr) : Prop where
  ne : PySem.W.findIn K (.ref C) "__ne__" = some (some (.builtin "object.__ne__"))
  ob : PySem.W.subIn K (.ref C) (.type "object") = some true
  eq : PySem.W.findIn K (.ref C) "__eq__" = some (some (.ref f))
  fn : PySem.W.isFn K (.ref f) = true
theorem ne_K {prog : Program} {w : World} {A : Around} {Ex : Value → Shared → Prop} {s : Shared} {K : PySem.W.Frag} {a b : Addr} {oa ob : Obj} {oda odb : Option Obj} {Q : Value → Shared → Prop} (hu : A.units + 1 < cLine) (X : K.In s.heap) (N : NoNe K C f)
    (I : PySem.W.InstAt s.heap a oa C oda) (J : PySem.W.InstAt s.heap b ob C odb) (h : wpAny (model prog w) A.in1 (call (.ref f) [.ref a, .ref b]) (fun v s' => ∃ r, v = .bool r ∧ Q (.bool (!r)) s') Ex s) :
    wpAny (model prog w) A (richCompare .NotEq (.ref a) (.ref b)) Q Ex s := by
  have body : wpAny (model prog w) A.in1 (Builtin.«object.__ne__» ⟨[.ref a, .ref b], []⟩) (fun fin s' => ∃ r, fin = .done (.ret (.bool (!r))) ∧ Q (.bool (!r)) s') Ex s := by
    unfold Builtin.«object.__ne__»
    refine wpAny_bind (wpAny_of_eq (a := ((Value.ref a : Value), [Value.ref b])) (by first | rfl | (simp only [slotArgs]; rfl)) ?_)
    refine wpAny_bind (wpAny_cRoomFor hu ?_)
    refine wpAny_bind (PySem.W.ifBound_K X I N.eq N.fn (wpAny_mono h (fun v s' hv => ?_) fun _ _ e => e))
    obtain ⟨r, rfl, q⟩ := hv
    refine wpAny_bind (wpAny_truthy_bool ?_)
    exact wpAny_pure ⟨r, rfl, q⟩
  have below : PySem.W.Looks (model prog w) s.heap (isInstance (.ref a) (.type "object")) true := I.type.andThen (PySem.W.looks_subIn X N.ob)
  have one : wpAny (model prog w) A (tryCompare (.ref a) "__ne__" (.ref b)) (fun r s' => ∃ t, r = some (.bool (!t)) ∧ Q (.bool (!t)) s') Ex s := by
    unfold tryCompare
    simp only [callSpecialIfBound?, bindSpecialIfBound?]
    refine wpAny_bind (wpAny_holding (wpAny_bind (wpAny_bind (wpAny_bind (I.type.here ((PySem.W.looks_findIn X N.ne).here ?_))))))
    simp only [F.cmp_object.ne.bind]
    refine wpAny_bind (wpAny_askSetting (wpAny_ite ?_))
    have fin : wpAny (model prog w) A (call (.builtin "object.__ne__") ([.ref a] ++ [.ref b]) >>= fun v => pure (some v)) (fun r s' => ∃ t, r = some (.bool (!t)) ∧ Q (.bool (!t)) s') Ex s := by
      refine wpAny_bind (wpAny_call (codeAny_call_builtin F.cmp_object.ne.plain F.cmpEntry_ne (PySem.W.check_slot F.cmpKind_ne F.cmpSplit_ne below (F.cmpArgs_ne _ _) (wpAny_mono body (fun fin s' hf => ?_) fun _ _ e => e))))
      obtain ⟨r, rfl, q⟩ := hf
      exact wpAny_pure ⟨r, rfl, q⟩
    have fin2 := wpAny_mono fin (Q' := fun a s' => wpAny (model prog w) A (match a with
        | some Value.notImplemented => pure none
        | none => pure none
        | some v => pure (some v)) (fun r s' => ∃ t, r = some (Value.bool !t) ∧ Q (Value.bool !t) s') Ex s') (fun r s' hr => by
      obtain ⟨t, rfl, q⟩ := hr
      exact wpAny_pure ⟨t, rfl, q⟩) fun _ _ e => e
    split
    · exact wpAny_pure (by exact fin2)
    · exact wpAny_tryCatch (wpAny_pure (by exact fin2))
  unfold richCompare
  simp only [oneThing_ref]
  refine wpAny_holding (wpAny_bind (wpAny_cRoomFor (by omega) ?_))
  refine wpAny_bind (I.type.here (wpAny_bind (J.type.here ?_)))
  split
  · rename_i q
    simp at q
  · refine wpAny_bind (wpAny_pure ?_)
    simp only [Bool.false_eq_true, if_false]
    refine wpAny_bind (wpAny_mono one (fun r s' z => ?_) fun _ _ e => e)
    obtain ⟨t, rfl, hq⟩ := z
    exact wpAny_pure hq
/-- x is y, two bools -/
theorem op_isB : OpR X (compareOp .Is) (fun x y H Q => ∃ a b, x = .bl a ∧ y = .bl b ∧ Q (.bl (decide (a = b))) H) := by
  intro pins s σ H x y v u Q I rx ry h
  obtain ⟨a, b, rfl, rfl, q⟩ := h
  cases rx
  cases ry
  show wpAny (model X.prog X.w) X.A (do return .bool (← isSame (.bool a) (.bool b))) (EP X pins σ Q) X.xe s
  refine wpAny_bind ?_
  unfold isSame
  cases a <;> cases b <;> exact wpAny_pure (wpAny_pure ⟨.bl (decide _), H, I, by rfl, q⟩)
section
variable {ks : List Str} {g : List Value → List Value → List Value} {gV : List V → List V → List V} {o : Expr} {m : Str} {pos apos : Pos} {kws : List Keyword} {ta : TE} {tk : TA}
/-- o.m(k = v, ..), nothing by place -/
def tMethK0 (C : Addr) (m : Str) (sp : Sp) (gV : List V → List V → List V) (E : XK) (ta : TE) (tk : TA) : TE := fun σ H Q => ta σ H fun x H1 => ∃ a dx fs, x = .ref a ∧ H1 a = some (.ins C dx fs) ∧ fs.lookup m = none ∧ tk σ H1 fun zs H2 => sp (gV [x] zs) H2 Q E
theorem pe_methK0 {pl : Sem Bool} (he : PE X o ta) (c : Cls X.K C) (hm : Meth X.K C m f) (F : FnOk X.prog X.w X.K X.mg X.base CX k f fd ps sp) (hr : Room k X.A) (hb : KBinds X.K fd ps ks g gV) (hx : Passes CX X E) (hkw : PK X kws tk)
    (hall : (backToKw pos (keywordEach kws X.env)).all (·.1.isSome) = true := by rfl) (hks : (backToKw pos (keywordEach kws X.env)).filterMap (·.1) = ks := by rfl)
    (hpl : ((backTo pos (starEach [] X.env)).any (·.1) || (backToKw pos (keywordEach kws X.env)).any (·.1.isNone)) = false := by rfl)
    (ht : eval (.Call (.Attribute o m apos) [] kws pos) X.env = (do
      let ov ← eval o X.env
      standAt apos.atName
      let (f, first) ← holding [ov] (getMethod ov m pl)
      callWith pos f first (backTo pos (starEach [] X.env)) (backToKw pos (keywordEach kws X.env))) := by rfl) :
    PE X (.Call (.Attribute o m apos) [] kws pos) (tMethK0 C m sp gV E ta tk) := by
  refine ⟨fun pins s σ H Q I h => ?_⟩
  refine PySem.W.methodCall_KW (pl := pl) (thn (he.run pins s σ H _ I h) fun u s1 ⟨x, H1, I1, rx, a, dx, fs, ex, ea, l, q⟩ => ?_) ht
  subst ex
  obtain rfl : u = Value.ref a := rx
  refine getmeth_ok I1 ea c hm l ?_
  refine PySem.W.callWith_KW0 (first := [.ref a]) (h₀ := X.base) I.ok.mod.kin hm.kp hall (thn (hkw.run pos pins s1 σ H1 _ I1 q) fun ws s2 ⟨zs, H2, I2, rz, q2⟩ => ⟨I2.kIn, ?_⟩) hpl
  rw [hks]
  exact run_fnk (us := [.ref a]) (vs := [.ref a]) F hr hb hx I2 (.cons rfl .nil) rz q2
end
/-! ### a built-in value == an instance: the instance's own == answers -/
theorem eq_right {prog : Program} {w : World} {A : Around} {Ex : Value → Shared → Prop} {s : Shared} {K : PySem.W.Frag} {a : Value} {b : Addr} {ob : Obj} {odb : Option Obj} {Ta ida : String} {Q : Value → Shared → Prop} (hu : A.units < cLine) (X : K.In s.heap)
    (he : PySem.W.findIn K (.ref C) "__eq__" = some (some (.ref f))) (hf : PySem.W.isFn K (.ref f) = true) (ha : s.TypeIs a Ta) (J : PySem.W.InstAt s.heap b ob C odb) (hsub : PySem.W.subIn K (.ref C) (.type Ta) = some false)
    (h1 : Slot Ta (cmpInfo .Eq).2.1 ida) (hc1 : ∀ Q' : Value → Shared → Prop, Q' .notImplemented s → wpAny (model prog w) A (call (.builtin ida) [a, .ref b]) Q' Ex s)
    (h : wpAny (model prog w) A (call (.ref f) [.ref b, a]) (fun v s' => ∃ r, v = .bool r ∧ Q (.bool r) s') Ex s) : wpAny (model prog w) A (richCompare .Eq a (.ref b)) Q Ex s := by
  have hne : (Value.type Ta != Value.ref C) = true := by
    rw [bne_iff_ne]
    exact fun z => nomatch z
  rcases hi : cmpInfo CmpOp.Eq with ⟨sym, n1, n2⟩
  have e1 : n1 = "__eq__" := by cases hi; rfl
  have e2 : n2 = "__eq__" := by cases hi; rfl
  rw [hi] at h1
  have one : wpAny (model prog w) A (tryCompare (.ref b) n2 a) (fun r s' => ∃ t, r = some (.bool t) ∧ Q (.bool t) s') Ex s := by
    rw [e2]
    unfold tryCompare
    refine wpAny_bind (PySem.W.ifBound_K X J he hf (wpAny_mono h (fun v s' hv => ?_) fun _ _ e => e))
    obtain ⟨r, rfl, q⟩ := hv
    exact wpAny_pure ⟨r, rfl, q⟩
  simp only [richCompare, hi, ha.oneThing_none]
  try with_reducible refine wpAny_holding ?_
  refine wpAny_bind (wpAny_cRoomFor hu ?_)
  refine wpAny_bind (wpAny_typeOf ha (wpAny_bind (J.type.here ?_)))
  simp only [hne, if_true]
  refine wpAny_bind ((PySem.W.looks_subIn X hsub).here ?_)
  simp only [Bool.false_eq_true, if_false, Bool.not_false, if_true]
  refine wpAny_bind (m := tryCompare a _ (.ref b)) (wpAny_tryCompare_declines ha h1 (hc1 _ ⟨rfl, ?_⟩))
  refine wpAny_bind (m := tryCompare (.ref b) _ a) (wpAny_mono one (fun r s' hr => ?_) fun _ _ e => e)
  obtain ⟨t, rfl, q⟩ := hr
  exact wpAny_pure q
theorem dec_int_eq (a : Int) (t : Tok) (l C dx : Addr) : Meets (Builtin.«int.__eq__» ⟨[.int a t, .ref l], []⟩) (fun _ R s => s.heap.get? l = some (PySem.W.instObj C dx) ∧ R (.ok (.ret Value.notImplemented)) s) := .of_wp fun prog w A R s h => by obtain ⟨hp, g, d, tk, os⟩ := s; obtain ⟨hl, h⟩ := h; wp_walk; exact ⟨_, rfl, h⟩
theorem dec_str_eq (a : Str) (t : Tok) (l C dx : Addr) : Meets (Builtin.«str.__eq__» ⟨[.str a t, .ref l], []⟩) (fun _ R s => s.heap.get? l = some (PySem.W.instObj C dx) ∧ R (.ok (.ret Value.notImplemented)) s) := .of_wp fun prog w A R s h => by obtain ⟨hp, g, d, tk, os⟩ := s; obtain ⟨hl, h⟩ := h; wp_walk; exact ⟨_, rfl, h⟩
theorem dec_none_eq (l : Addr) : Gives (Builtin.«NoneType.__eq__» ⟨[.none, .ref l], []⟩) (.val (Value.notImplemented)) := .of_wp fun M A E s Q h => by obtain ⟨hp, g, d, tk, os⟩ := s; wp_walk; exact ⟨_, rfl, h⟩
section
variable {prog : Program} {w : World} {A : Around} {Ex : Value → Shared → Prop} {s : Shared}
theorem dec_list_eq {l b : Addr} {Q : Value → Shared → Prop} (hl : s.TypeIs (.ref l) "list") (hb : PySem.W.Looks (model prog w) s.heap (isInstance (.ref b) (.type "list")) false) (q : Q .notImplemented s) : wpAny (model prog w) A (call (.builtin "list.__eq__") [.ref l, .ref b]) Q Ex s := by
  refine GQ.call_here F.slot_list_eq hl F.entry_list_eq (F.args_list_eq_2 _ _) ?_
  obtain ⟨hp, g, d, tk, os⟩ := s
  wp_walk using hb.at
  exact q
theorem dec_tuple_eq {l b : Addr} {Q : Value → Shared → Prop} (hl : s.TypeIs (.ref l) "tuple") (hb : PySem.W.Looks (model prog w) s.heap (isInstance (.ref b) (.type "tuple")) false) (q : Q .notImplemented s) : wpAny (model prog w) A (call (.builtin "tuple.__eq__") [.ref l, .ref b]) Q Ex s := by
  refine GQ.call_here F.slot_tuple_eq hl F.entry_tuple_eq (F.args_tuple_eq_2 _ _) ?_
  obtain ⟨hp, g, d, tk, os⟩ := s
  wp_walk using hb.at
  exact q
end
/-! ### an instance in a list of other things, by its own == -/
section
open PySem.SeqAt MeetsSeq MeetsSeq2 MeetsSeq3 SeqRoads2
variable {prog : Program} {w : World} {A : Around} {R : Result → Shared → Prop}
theorem contains_loopG (l : Addr) (x : Value) (N : Nat) (I : Shared → Prop)
    (hl : ∀ s, I s → ∃ (items : Array Value) (n : Nat), s.heap.get? l = some { cls := .type "list", data := .seq items n } ∧ items.size = N ∧ ∀ i (h : i < items.size), wpAny (model prog w) A.in1 (eqBool items[i] x) (fun r s' => r = false ∧ I s') (fun e s' => R (.error e) s') s)
    (fin : ∀ s, I s → R (.ok (.ret (.bool false))) s) (k : Nat) :
    ∀ i : Nat, N - i = k → i ≤ N → ∀ s, I s → wpAny (model prog w) A.in1 (Builtin.«list.__contains__.loop» ⟨[.ref l, x, rawInt i], []⟩) (GQ.FinOf prog w A R) (fun e s' => R (.error e) s') s := by
  induction k with
  | zero =>
    intro i hk hi s h
    obtain ⟨items, n, hl1, hs1, _⟩ := hl _ h
    have hR : R (.ok (.ret (.bool false))) s := fin s h
    obtain ⟨hp, g, d, tk, os⟩ := s
    wp_walk using AutoSeq1.wpAny_loadPart' hl1
    have hi1 : items[((i : Nat) : Int).toNat]? = none := by simp; omega
    rw [hi1]
    wp_walk
    exact hR
  | succ k ih =>
    intro i hk hi s h
    obtain ⟨items, n, hl1, hs1, turn⟩ := hl _ h
    have hlt : i < items.size := by omega
    have ht := turn i hlt
    obtain ⟨hp, g, d, tk, os⟩ := s
    wp_walk using AutoSeq1.wpAny_loadPart' hl1
    have hi1 : items[((i : Nat) : Int).toNat]? = some items[i] := by simp [hlt]
    have hc : ((i : Int) + 1) = ((i + 1 : Nat) : Int) := by omega
    rw [hi1]
    refine wpAny_bind (wpAny_mono ht (fun r s2 h2 => ?_) fun _ _ x => x)
    obtain ⟨hr, h2⟩ := h2
    subst hr
    have hrec := ih (i + 1) (by omega) (by omega) s2 h2
    obtain ⟨hp2, g2, d2, tk2, os2⟩ := s2
    wp_walk
    rw [hc]
    exact ⟨plainId_quiet plain_contains_loop _, codeAny_builtin entry_contains_loop (by
      rw [Around.under_plainId plain_contains_loop _]
      exact hrec)⟩
theorem list_containsG (l : Addr) (x : Value) (N : Nat) (I : Shared → Prop)
    (hl : ∀ s, I s → ∃ (items : Array Value) (n : Nat), s.heap.get? l = some { cls := .type "list", data := .seq items n } ∧ items.size = N ∧ ∀ i (h : i < items.size), wpAny (model prog w) A.in1 (eqBool items[i] x) (fun r s' => r = false ∧ I s') (fun e s' => R (.error e) s') s)
    (fin : ∀ s, I s → R (.ok (.ret (.bool false))) s) {s : Shared} (h : I s) : wpAny (model prog w) A.in1 (Builtin.«list.__contains__» ⟨[.ref l, x], []⟩) (GQ.FinOf prog w A R) (fun e s' => R (.error e) s') s := by
  have hrec := contains_loopG (A := A) (R := R) l x N I hl fin _ 0 rfl (Nat.zero_le _) s h
  obtain ⟨items, n, hl1, _, _⟩ := hl _ h
  obtain ⟨hp, g, d, tk, os⟩ := s
  wp_walk using AutoSeq1.wpAny_loadPart' hl1
  exact ⟨plainId_quiet plain_contains_loop _, codeAny_builtin entry_contains_loop (by
    rw [Around.under_plainId plain_contains_loop _]
    exact hrec)⟩
end
theorem eqBool_any {prog : Program} {w : World} {A : Around} {Ex : Value → Shared → Prop} {s : Shared} {a : Value} {b : Addr} {Q : Bool → Shared → Prop} (hne : a ≠ .ref b) (h : wpAny (model prog w) A (richCompare .Eq a (.ref b)) (fun v s' => ∃ r, v = .bool r ∧ Q r s') Ex s) : wpAny (model prog w) A (eqBool a (.ref b)) Q Ex s := by
  unfold eqBool
  refine wpAny_holding ?_
  refine wpAny_ite_split (fun hab => absurd (eq_of_beq hab) hne) (fun _ => ?_)
  cases a <;> exact wpAny_bind (wpAny_mono h (fun v s' hv => by
    obtain ⟨r, rfl, q⟩ := hv
    exact wpAny_truthy_bool q) fun _ _ x => x)
/-- another thing than an instance -/
def Oth (K : PySem.W.Frag) (H : Hp) (y : V) : Prop := (∃ i, y = .int i) ∨ (∃ z, y = .str z) ∨ y = .non ∨ (∃ p xs, y = .ref p ∧ H p = some (.tup xs)) ∨ (∃ p xs, y = .ref p ∧ H p = some (.lst xs))
structure OthC (K : PySem.W.Frag) (C f : Addr) : Prop where
  eq : PySem.W.findIn K (.ref C) "__eq__" = some (some (.ref f))
  fn : PySem.W.isFn K (.ref f) = true
  i : PySem.W.subIn K (.ref C) (.type "int") = some false
  s : PySem.W.subIn K (.ref C) (.type "str") = some false
  n : PySem.W.subIn K (.ref C) (.type "NoneType") = some false
  t : PySem.W.subIn K (.ref C) (.type "tuple") = some false
  l : PySem.W.subIn K (.ref C) (.type "list") = some false
def rInO (K : PySem.W.Frag) (C : Addr) (sp : Sp) (E : XK) : R2 := fun x y H Q => ∃ a dx fs l ys, x = .ref a ∧ y = .ref l ∧ H a = some (.ins C dx fs) ∧ H l = some (.lst ys) ∧ (∀ z ∈ ys, Oth K H z ∧ sp [.ref a, z] H (fun v H' => v = .bl false ∧ H' = H) E) ∧ Q (.bl false) H
theorem in_own (O : OthC X.K C f) (Fk : FnOk X.prog X.w X.K X.mg X.base CX k f fd ps sp) (hr : Room (k + 1) X.A) (hb : Binds X.K fd ps []) (hx : Passes CX X E) : OpR X (compareOp .In) (rInO X.K C sp E) := by
  intro pins s σ H x y v u Q I rx ry h
  obtain ⟨a, dx, fs, l, ys, rfl, rfl, ea, el, hz, q⟩ := h
  obtain rfl : v = Value.ref a := rx
  obtain rfl : u = Value.ref l := ry
  obtain ⟨z0, its0, n0, r0, e0⟩ := I.hok l _ el
  show wpAny (model X.prog X.w) X.A (do return .bool (← contains (.ref l) (.ref a))) (EP X pins σ Q) X.xe s
  have hT : s.TypeIs (.ref l) "list" := ⟨_, e0, rfl⟩
  refine wpAny_bind (wpAny_contains_slot hT F.slot_list_contains (wpAny_mono (GQ.call_here (Q := fun v s' => v = .bool false ∧ Inv X pins σ H s') F.slot_list_contains hT F.entry_list_contains (F.args_list_contains_2 _ _)
    (list_containsG l (.ref a) ys.length (fun s' => Inv X pins σ H s') (fun s' I' => ?_) (fun s' I' => ⟨rfl, I'⟩) I)) (fun v s' hv => ?_) fun _ _ e => e))
  · obtain ⟨z1, its, n, r, e⟩ := I'.hok l _ el
    refine ⟨its.toArray, n, e, by rw [List.size_toArray]; exact r.length.symm, fun i hi => ?_⟩
    have k1 : i < ys.length := by rw [r.length]; simpa using hi
    obtain ⟨u, hu, ru⟩ := r.get (List.getElem?_eq_getElem k1)
    have g1 : its[i]? = some its.toArray[i] := by
      have h1' : i < its.length := by simpa using hi
      rw [List.getElem?_eq_getElem h1'] <;> simp
    rw [g1] at hu
    rw [Option.some.inj hu]
    obtain ⟨ho, hsp⟩ := hz _ (List.getElem_mem k1)
    obtain ⟨mA, J, _⟩ := ins_get I'.hok ea
    obtain ⟨od, J, _⟩ := J.look
    have own : wpAny (model X.prog X.w) X.A.in1 (call (.ref f) [.ref a, u]) (fun v s' => ∃ r, v = .bool r ∧ ∃ t, Value.bool r = .bool t ∧ (t = false ∧ Inv X pins σ H s')) X.xe s' := by
      refine wpAny_mono (run_own1 (vs := [V.ref a, ys[i]]) Fk hr hb hx I' (.cons rfl (.cons ru .nil)) hsp) (fun v s2 hv => ?_) fun _ _ e => e
      obtain ⟨x, H2, I2, rv, ex, eH⟩ := hv
      subst ex
      subst eH
      obtain rfl : v = Value.bool false := rv
      exact ⟨false, rfl, false, rfl, rfl, I2⟩
    have hu1 : X.A.in1.units < cLine := hr.in1.units0
    rcases ho with ⟨i', ei⟩ | ⟨z', ez⟩ | en | ⟨p, xs, ep, hp⟩ | ⟨p, xs, ep, hp⟩
    · rw [ei] at ru
      obtain ⟨t, rfl⟩ := ru
      exact eqBool_any (fun z => nomatch z) (eq_right hu1 I'.kIn O.eq O.fn (typeIs_int s' i' t) J O.i F.slot_int_eq (fun Q' q' => call_meets F.slot_int_eq (typeIs_int s' i' t) F.entry_int_eq (F.args_int_eq_2 _ _) (dec_int_eq i' t a C dx) ⟨J.at_, q'⟩) own)
    · rw [ez] at ru
      obtain ⟨t, rfl⟩ := ru
      exact eqBool_any (fun z => nomatch z) (eq_right hu1 I'.kIn O.eq O.fn (typeIs_str s' z' t) J O.s F.slot_str_eq (fun Q' q' => call_meets F.slot_str_eq (typeIs_str s' z' t) F.entry_str_eq (F.args_str_eq_2 _ _) (dec_str_eq z' t a C dx) ⟨J.at_, q'⟩) own)
    · rw [en] at ru
      obtain rfl : u = Value.none := ru
      exact eqBool_any (fun z => nomatch z) (eq_right hu1 I'.kIn O.eq O.fn (typeIs_none s') J O.n F.slot_NoneType_eq (fun Q' q' => call_gives F.slot_NoneType_eq (typeIs_none s') F.entry_NoneType_eq (F.args_NoneType_eq_2 _ _) (dec_none_eq a) q') own)
    · rw [ep] at ru
      obtain rfl : u = Value.ref p := ru
      obtain ⟨its2, r2, pt, _⟩ := I'.tuple (SqT.of hp)
      obtain ⟨ot, et, ct, _⟩ := id pt
      have hTp : s'.TypeIs (.ref p) "tuple" := ⟨ot, et, ct⟩
      have below : PySem.W.Looks (model X.prog X.w) s'.heap (isInstance (.ref a) (.type "tuple")) false := J.type.andThen (PySem.W.looks_subIn I'.kIn O.t)
      refine eqBool_any (fun z => ?_) (eq_right hu1 I'.kIn O.eq O.fn hTp J O.t F.slot_tuple_eq (fun Q' q' => dec_tuple_eq hTp below q') own)
      injection z with z
      rw [z, ea] at hp
      cases hp
    · rw [ep] at ru
      obtain rfl : u = Value.ref p := ru
      obtain ⟨z2, its2, n2, r2, e2⟩ := I'.hok p _ hp
      have hTp : s'.TypeIs (.ref p) "list" := ⟨_, e2, rfl⟩
      have below : PySem.W.Looks (model X.prog X.w) s'.heap (isInstance (.ref a) (.type "list")) false := J.type.andThen (PySem.W.looks_subIn I'.kIn O.l)
      refine eqBool_any (fun z => ?_) (eq_right hu1 I'.kIn O.eq O.fn hTp J O.l F.slot_list_eq (fun Q' q' => dec_list_eq hTp below q') own)
      injection z with z
      rw [z, ea] at hp
      cases hp
  · obtain ⟨rfl, I'⟩ := hv
    exact wpAny_truthy_bool (wpAny_pure ⟨.bl false, H, I', rfl, q⟩)
/-- != of two instances -/
theorem ne_own (N : NoNe X.K C f) (F : FnOk X.prog X.w X.K X.mg X.base CX k f fd ps sp) (hr : Room (k + 1) X.A) (hb : Binds X.K fd ps []) (hx : Passes CX X E) :
    OpR X (compareOp .NotEq) (fun x y H Q => rOO C sp E x y H (fun v H' => ∃ b, v = .bl b ∧ Q (.bl (!b)) H')) := by
  intro pins s σ H x y v u Q I rx ry h
  obtain ⟨a, dx, fs, b, dy, gs, rfl, rfl, ea, eb, q⟩ := h
  obtain rfl : v = Value.ref a := rx
  obtain rfl : u = Value.ref b := ry
  obtain ⟨mA, J, _⟩ := ins_get I.hok ea
  obtain ⟨od, J, _⟩ := J.look
  obtain ⟨mB, J', _⟩ := ins_get I.hok eb
  obtain ⟨od', J', _⟩ := J'.look
  show wpAny (model X.prog X.w) X.A (richCompare .NotEq (.ref a) (.ref b)) (EP X pins σ Q) X.xe s
  refine ne_K (by have := hr.un; omega) I.kIn N J J' (wpAny_mono (run_own1 (vs := [V.ref a, V.ref b]) F hr hb hx I (.cons rfl (.cons rfl .nil)) q) (fun v s2 hv => ?_) fun _ _ e => e)
  obtain ⟨x, H2, I2, rv, t, ex, q2⟩ := hv
  subst ex
  obtain rfl : v = Value.bool t := rv
  exact ⟨t, rfl, .bl (!t), H2, I2, rfl, q2⟩
section
variable {E : L2.St → XK} {o e : Expr} {es : List Expr} {m : Str} {pos apos : Pos} {ta : TE} {t : TA}
/-- o.m(e, ..), what is let out wished for at the caller's slots -/
def tMethE (C : Addr) (m : Str) (sp : Sp) (E : L2.St → XK) (ta : TE) (t : TA) : TE := fun σ H Q => ta σ H fun x H1 => ∃ a dx fs, x = .ref a ∧ H1 a = some (.ins C dx fs) ∧ fs.lookup m = none ∧ t σ H1 fun vs H2 => sp (x :: vs) H2 Q (E σ)
theorem pe_methE {pl : Sem Bool} (he : PE X o ta) (c : Cls X.K C) (hm : Meth X.K C m f) (F : FnOk X.prog X.w X.K X.mg X.base CX k f fd ps sp) (hr : Room k X.A) (hb : Binds X.K fd ps []) (hx : ∀ σ, PassesAt CX X σ (E σ)) (ha : PA X (e :: es) t)
    (hst : starEach (e :: es) X.env = (false, eval e X.env) :: starEach es X.env := by rfl) (hpl : (backTo pos (starEach es X.env)).any (·.1) = false := by rfl)
    (ht : eval (.Call (.Attribute o m apos) (e :: es) [] pos) X.env = (do
      let ov ← eval o X.env
      standAt apos.atName
      let (f, first) ← holding [ov] (getMethod ov m pl)
      callWith pos f first (backTo pos (starEach (e :: es) X.env)) (backToKw pos (keywordEach [] X.env))) := by rfl) :
    PE X (.Call (.Attribute o m apos) (e :: es) [] pos) (tMethE C m sp E ta t) := by
  refine ⟨fun pins s σ H Q I h => ?_⟩
  refine PySem.W.methodCall_KW (pl := pl) (thn (he.run pins s σ H _ I h) fun u s1 ⟨x, H1, I1, rx, a, dx, fs, ex, ea, l, q⟩ => ?_) ht
  subst ex
  obtain rfl : u = Value.ref a := rx
  refine getmeth_ok I1 ea c hm l ?_
  refine PySem.W.callWith_K (first := [.ref a]) (h₀ := X.base) I.ok.mod.kin hm.kp (thn (ha.run pos pins s1 σ H1 _ I1 q) fun us s2 ⟨vs, H2, I2, r, q2⟩ => ⟨I2.kIn, ?_⟩) hst hpl
  exact run_fnS (us := .ref a :: us) (vs := .ref a :: vs) F hr hb (hx σ) I2 (.cons rfl r) q2
end
/-- the receiver by place, the other by its name -/
def kSelf {α : Type} : List α → List α → List α
  | [u], ws => u :: ws
  | _, _ => []
theorem kbinds_self {K : PySem.W.Frag} {fd : FuncData} {p1 p2 k : Str} (h : ∀ (s : Shared) (u w : Value), BindsTo s fd ⟨[u], [(k, w)]⟩ [(p1, u), (p2, w)]) : KBinds K fd [p1, p2] [k] kSelf kSelf where
  to := fun s us ws _ hl => match us, ws, hl with
    | [u], [w], _ => h s u w
    | [], _, hl => nomatch hl
    | [_], [], hl => nomatch hl
    | [_], _ :: _ :: _, hl => by simp [kSelf] at hl
    | _ :: _ :: _, _, hl => nomatch hl
  rel := fun r rz => by
    cases r with
    | nil => exact .nil
    | cons a r =>
      cases r with
      | nil => exact .cons a rz
      | cons => exact .nil
end
end My

/-! My own rule: the own == of two instances within an except suite. -/
namespace My
open PySem PySem.Spec PyProof.Rows L2
/-- a def that may be called while an error is handled: the error stands at p, out of reach -/
structure FnP (P : Program) (w : World) (K : PySem.W.Frag) (mg : Str → Option Value) (base : Heap) (k : Nat) (f : Addr) (fd : FuncData) (ps : List Str) (sp : Sp) : Prop where
  len : ∀ vs H Q E, sp vs H Q E → vs.length = ps.length
  run : ∀ (A : Around) (outer : List Env) (s : Shared) (H : Hp) (args : Args) (us : List Value) (vs : List V) (Q : VK) (E : XK) (p : Addr × Obj), L2H.RoomH k A → L2H.PinOk outer H s p → Env0 P w K mg base A outer s H → BindsTo s fd args (ps.zip us) → Vals vs us → sp vs H Q E →
    codeAny (model P w) A (.call (.ref f) args) (CR CX0 outer P w H s Q E) s
theorem fnP_of {P : Program} {w : World} {K : PySem.W.Frag} {mg : Str → Option Value} {base : Heap} {x qual : Str} {st : Stmt} {f : Addr} {fd : FuncData} {N ps : List Str} {k : Nat} {sp : Sp} (F : Fun K x qual st f fd) (S : FnScope N ps (defScope st)) (len : ∀ vs H Q E, sp vs H Q E → vs.length = ps.length)
    (hbody : ∀ (cdv : Value) (A : Around) (outer : List Env) (s : Shared) (H : Hp) (vs : List V) (Q : VK) (E : XK) (p : Addr × Obj), sp vs H Q E →
      ∃ t, PSs (L2H.cxH CX0 P w K mg base N qual (defScope st) f cdv A outer s H E p) (defBody st) t ∧ t { nx := fun _ H' => Q .non H', rt := Q } (L2.start N vs) H) : FnP P w K mg base (k + 1) f fd ps sp := by
  obtain ⟨oc, od, kV, doc, pm, an, cdv, ct, osl, rfl, lk, hcd⟩ := F.ex
  refine ⟨len, fun A outer s H args us vs Q E p hr hpin e0 hb r hsp => ?_⟩
  have up : ∀ b o, base.get? b = some o → s.heap.get? b = some o := fun b o e => (e0.bs b o e).1
  refine codeAny_call_function hr.depth (e0.mod.kin.keeps up _ _ lk) rfl S.co S.gen rfl (PySem.W.codeRec_of (e0.mod.kin.keeps up) hcd) (hb _ _ _ _ ?_)
  refine wpAny_newFunctionEnv_cells S.kind (fun q hq => (S.par q.1 (List.of_mem_zip hq).1).elim .inl fun c => .inr ⟨c, PySem.W.cellsFrom_some _ _ _ (.inl c)⟩) fun env he s1 y => ?_
  subst he
  refine ⟨(e0.mod.nolimit.keeps up).keeps y.toInCall.keep, codeAny_func ?_⟩
  obtain ⟨t, ht, hq⟩ := hbody cdv A outer s H vs Q E p hsp
  refine wpAny_mono (ht.run [] s1 (L2.start N vs) H _ (L2H.inv_startH S hpin e0 (len _ _ _ _ hsp) r y) hq) (fun fl s' hs => ?_) fun e s' hs => hs
  cases fl with
  | ret u =>
    obtain ⟨v, σ', H', J, rv, q⟩ := hs
    exact ⟨v, H', J.os, J.bare, J.base, J.hok, rv, q⟩
  | next =>
    obtain ⟨σ', H', J, q⟩ := hs
    exact ⟨.non, H', J.os, J.bare, J.base, J.hok, rfl, q⟩
  | brk => exact hs.elim fun _ h => h.elim fun _ h => False.elim h.2
  | cont => exact hs.elim fun _ h => h.elim fun _ h => False.elim h.2
section
variable {X : Cx} {k : Nat} {C f : Addr} {fd : FuncData} {ps : List Str} {sp : Sp} {E : XK} {p : Addr × Obj}
theorem cmp_ownP (hs : PySem.W.findIn X.K (.ref C) "__eq__" = some (some (.ref f))) (hf : PySem.W.isFn X.K (.ref f) = true) (F : FnP X.prog X.w X.K X.mg X.base k f fd ps sp) (hr : L2H.RoomH k X.A) (hp : p ∈ X.pn) (hb : Binds X.K fd ps []) : OpR X (compareOp .Eq) (rOO C sp E) := by
  intro pins s σ H x y v u Q I rx ry h
  obtain ⟨a, dx, fs, b, dy, gs, rfl, rfl, ea, eb, q⟩ := h
  obtain rfl : v = Value.ref a := rx
  obtain rfl : u = Value.ref b := ry
  obtain ⟨mA, J, _⟩ := ins_get I.hok ea
  obtain ⟨od, J, _⟩ := J.look
  obtain ⟨mB, J', _⟩ := ins_get I.hok eb
  obtain ⟨od', J', _⟩ := J'.look
  obtain ⟨m, hF⟩ := I.fr
  have hl : ([Value.ref a, Value.ref b] ++ []).length = ps.length := by rw [← F.len _ _ _ _ q]; rfl
  have b2 := hb s [.ref a, .ref b] I.kIn hl
  have P1 := I.pin p (List.mem_append_left _ hp)
  have hpin : L2H.PinOk X.stack H s p := ⟨P1.1, P1.2.1, fun hm => (List.mem_cons.mp (I.stkSub p.1 hm)).elim P1.2.2.1 P1.2.2.2.1, P1.2.2.2.2⟩
  show wpAny (model X.prog X.w) X.A (richCompare .Eq (.ref a) (.ref b)) (EP X pins σ Q) X.xe s
  refine PySem.W.cmp_K (op := .Eq) (tb := .ref C) (by have := hr.un; omega) hF I.ok.mod.kin J J'.type (by simp [PySem.W.notFirst]) hs hf ?_
  refine wpAny_call (codeAny_mono (F.run X.A X.stack s H ⟨[.ref a, .ref b], []⟩ [.ref a, .ref b] [.ref a, .ref b] Q E p hr hpin I.env0 b2 (.cons rfl (.cons rfl .nil)) q) fun r s' hq => ?_)
  cases r with
  | error e => exact hq.elim
  | ok fl =>
    cases fl with
    | ret w => exact back_of (I.after hq)
    | next => exact False.elim hq
    | brk => exact False.elim hq
    | cont => exact False.elim hq
end
end My

/-! My own rules: a text times a number; a class method's call that raises, at the caller's slots. -/
namespace My
open PySem PySem.Spec PyProof.Rows L2
section
variable {X : Cx}
/-- z * k, only the length is told -/
def rRepS : R2 := fun x y H Q => ∃ (z : Str) (k : Int), x = .str z ∧ y = .int k ∧ 2 ≤ k ∧ k < 2 ^ 30 ∧ 1 ≤ z.length ∧ z.length * k.toNat ≤ sizeLine ∧ ∀ u : Str, u.length = k.toNat * z.length → (∀ c ∈ u.cps.toList, c ∈ z.cps.toList) → Q (.str u) H
theorem rep_size (x : Array Nat) : ∀ (n : Nat) (a : Array Nat), ((List.replicate n x).foldl (· ++ ·) a).size = a.size + n * x.size
  | 0, a => by simp
  | n + 1, a => by
    show ((List.replicate n x).foldl (· ++ ·) (a ++ x)).size = _
    rw [rep_size x n (a ++ x), Array.size_append, Nat.add_mul]
    omega
theorem rep_mem (x : Array Nat) : ∀ (n : Nat) (a : Array Nat) (c : Nat), c ∈ (List.replicate n x).foldl (· ++ ·) a → c ∈ a ∨ c ∈ x
  | 0, a, c, h => .inl h
  | n + 1, a, c, h => by
    rcases rep_mem x n (a ++ x) c h with h | h
    · exact Array.mem_append.mp h
    · exact .inr h
theorem op_repS : OpR X (binaryOp .Mult) rRepS := by
  intro pins s σ H x y v u Q I rx ry h
  obtain ⟨z, k, rfl, rfl, h2, h30, h1, hz, q⟩ := h
  obtain ⟨t, rfl⟩ := rx
  obtain ⟨t', rfl⟩ := ry
  have hl : Builtin.Str.tooLong (z.length * k.toNat) = false := decide_eq_false (by omega)
  have hs : sizeLine = 2 ^ 24 := rfl
  have hb : ¬ ((z.length : Int) > (2 ^ 63 - 1) / k) := by
    have e1 : z.length ≤ z.length * k.toNat := Nat.le_mul_of_pos_right _ (by omega)
    have e2 : (2 ^ 24 : Int) ≤ (2 ^ 63 - 1) / k := by
      rw [Int.le_ediv_iff_mul_le (by omega)]
      omega
    omega
  refine P.mul_str (by rw [decide_eq_false (by omega), decide_eq_false (by omega)]; rfl) (fun _ _ => hb) (fun _ _ => hl) ?_
  rw [if_neg (by omega), if_neg (by
    have a1 : (k == 1) = false := by simp; omega
    have a2 : (z.length == 0) = false := by simp; omega
    rw [a1, a2]
    exact Bool.false_ne_true)]
  have e : (⟨(List.replicate k.toNat z.cps).foldl (· ++ ·) #[]⟩ : Str).length = k.toNat * z.length := by
    show ((List.replicate k.toNat z.cps).foldl (· ++ ·) #[]).size = _
    rw [rep_size]
    show 0 + _ = _
    rw [Nat.zero_add]
    rfl
  refine ⟨?_, .str _, H, I.tok _, ⟨_, rfl⟩, q _ e fun c hc => ?_⟩
  rotate_left
  · rcases rep_mem z.cps k.toNat #[] c (Array.mem_toList_iff.mp hc) with h | h
    · exact absurd h (by simp)
    · exact Array.mem_toList_iff.mpr h
  show (⟨(List.replicate k.toNat z.cps).foldl (· ++ ·) #[]⟩ : Str).length ≤ sizeLine
  rw [e, Nat.mul_comm]
  exact hz
end
section
variable {X : Cx} {CX : CXT} {k : Nat} {C p g : Addr} {mc : Value} {fd : FuncData} {ps : List Str} {sp : Sp} {E : L2.St → XK} {o e : Expr} {es : List Expr} {m : Str} {pos apos : Pos} {ta : TE} {t : TA} {pl : Sem Bool}
def tCMethE (C : Addr) (sp : Sp) (E : L2.St → XK) (ta : TE) (t : TA) : TE := fun σ H Q => ta σ H fun x H1 => x = .ref C ∧ t σ H1 fun vs H2 => sp (.ref C :: vs) H2 Q (E σ)
theorem pe_cmethE (he : PE X o ta) (r : ClX.CRead X.K C mc) (c : ClX.CMet X.K C mc m p g) (F : FnOk X.prog X.w X.K X.mg X.base CX k g fd ps sp) (hr : Room k X.A) (hb : Binds X.K fd ps []) (hx : ∀ σ, PassesAt CX X σ (E σ)) (ha : PA X (e :: es) t)
    (hst : starEach (e :: es) X.env = (false, eval e X.env) :: starEach es X.env := by rfl) (hpl : (backTo pos (starEach es X.env)).any (·.1) = false := by rfl)
    (ht : eval (.Call (.Attribute o m apos) (e :: es) [] pos) X.env = (do
      let ov ← eval o X.env
      standAt apos.atName
      let (f, first) ← holding [ov] (getMethod ov m pl)
      callWith pos f first (backTo pos (starEach (e :: es) X.env)) (backToKw pos (keywordEach [] X.env))) := by rfl) :
    PE X (.Call (.Attribute o m apos) (e :: es) [] pos) (tCMethE C sp E ta t) := by
  refine ⟨fun pins s σ H Q I h => ?_⟩
  refine PySem.W.methodCall_KW (pl := pl) (thn (he.run pins s σ H _ I h) fun u s1 ⟨x, H1, I1, rx, ex, q⟩ => ?_) ht
  subst ex
  obtain rfl : u = Value.ref C := rx
  refine ClX.getmethcm_ok I1 r c fun s2 I2 => ?_
  refine ClX.callwith_cm I2 (ClX.base_none I1 (Nat.le_refl _)) c.fi (thn (ha.run pos _ s2 σ H1 _ I2 q) fun us s3 ⟨vs, H2, I3, rv, q2⟩ => ⟨⟨ClX.pin_at I3, I3.kIn⟩, ?_⟩) hst hpl
  suffices z : wpAny (model X.prog X.w) X.A (call (.ref s1.heap.objs.size) us) (EP X ((s1.heap.objs.size, PySem.W.methodObj (.ref g) (.ref C)) :: pins) σ Q) X.xe s3 from thn z fun _ _ y => ClX.unpinE y
  refine wpAny_call (PySem.W.method_call (ClX.pin_at I3) ?_)
  have r2 : Vals (V.ref C :: vs) (Value.ref C :: us) := .cons rfl rv
  have hl : (Value.ref C :: us).length = ps.length := by rw [← r2.length]; exact F.len _ _ _ _ q2
  have b := hb s3 (Value.ref C :: us) I3.kIn (by rw [List.append_nil]; exact hl)
  rw [List.append_nil] at b
  refine codeAny_mono (F.run X.A X.stack s3 H2 ⟨Value.ref C :: us, []⟩ (Value.ref C :: us) (V.ref C :: vs) Q (E σ) hr I3.env0 b r2 q2) fun r s' hq => ?_
  cases r with
  | error er => exact hx σ _ H2 s3 er s' I3 hq
  | ok fl =>
    cases fl with
    | ret u => exact I3.after hq
    | next => exact False.elim hq
    | brk => exact False.elim hq
    | cont => exact False.elim hq
end
theorem kit_vty {K : PySem.W.Frag} {C : Addr} {T : String} {b : Bool} (h : PySem.W.mroIn K C (.type T) = some b) (hm : PySem.W.kitMeta T = true) : PySem.W.kitOne K (.ref C) (.type T) = some b := by
  unfold PySem.W.kitOne
  rw [if_neg (by simp)]
  show (if PySem.W.kitMeta T = true then PySem.W.subIn K (.ref C) (.type T) else none) = some b
  rw [if_pos hm]
  exact h
end My

set_option maxHeartbeats 4000000
/-! My own rules: errors held as values: made, asked for their class, their attributes read. -/
namespace PySem
namespace HandSPX2
open PySem.W PySem.Calls PyProof.Rows PySem.HandSPX
section
variable {M : Model} {A : Around} {E : Value → Shared → Prop} {h : Heap} {g : Array GenState} {d : Drawn} {t : Nat} {os : OsState}
variable {nm q : Str} {C N : Addr} {bs bm bmB : List Value} {hdct : Bool} {sn : List Str} {sub : List Value} {ab : Bool} {col : Option Bool} {dd : Option Addr} {k0 k1 k2 k3 k5 : Option Value} {B newId initId : String}
theorem check_new_ownK (F : ExcBaseFacts B newId initId bmB) (hT : ∀ X : String, bm.contains (.type X) = bmB.contains (.type X)) {rest : List Value} {kws : List (Str × Value)} {Q : Unit → Shared → Prop}
    (hC : h.get? C = some (excClassObj nm q C N bs bm hdct sn sub ab col dd k0 k1 k2 k3 k5 newId)) (hq : Q () ⟨h, g, d, t, os⟩) : wpAny M A (checkBuiltinCall newId ⟨.ref C :: rest, kws⟩) Q E ⟨h, g, d, t, os⟩ := by
  have hcont : (Value.ref C :: bm).contains (.type B) = true := by rw [List.contains_cons, hT, F.hasB, Bool.or_true]
  have hstar := F.noStar
  simp only [checkBuiltinCall, F.newKind, F.newSplit, F.newRow]
  repeat (first | refine wpAny_loadPart_at hC ?_ | (refine wpAny_isSubtype_exc hC ?_; rw [hcont]) | refine wpAny_staticBase_exc hC ?_ | refine wpAny_madeBy_exc hC ?_ | simp only [bne_self_eq_false, Bool.false_eq_true, if_false] | wp_step)
  exact hq
end
section
variable {prog : Program} {w : World} {A : Around} {E : Value → Shared → Prop} {R : Result → Shared → Prop} {h : Heap} {g : Array GenState} {d : Drawn} {t : Nat} {os : OsState}
variable {nm q : Str} {C N : Addr} {bs bm bmB : List Value} {hdct : Bool} {sn : List Str} {sub : List Value} {ab : Bool} {col : Option Bool} {dd : Option Addr} {k0 k1 k2 k3 k5 : Option Value} {B newId initId : String}
theorem new_ownK (F : ExcBaseFacts B newId initId bmB) (hT : ∀ X : String, bm.contains (.type X) = bmB.contains (.type X)) {rest : List Value} {kws : List (Str × Value)}
    (hC : h.get? C = some (excClassObj nm q C N bs bm hdct sn sub ab col dd k0 k1 k2 k3 k5 newId))
    (hq : R (.ok (.ret (.ref (h.objs.size + 1)))) ⟨(h.push { cls := .type "tuple", data := .seq rest.toArray }).push
      { cls := .ref C, data := .fields #[.ref h.objs.size, .none, .none, .none, .bool false, .none] }, g, d, t, os⟩) (hrest : rest.length ≤ sizeLine) :
    codeAny (model prog w) A (.builtin newId ⟨.ref C :: rest, kws⟩) R ⟨h, g, d, t, os⟩ := by
  have hends := F.ends
  have hcB : (Value.ref C :: bm).contains (.type B) = true := by rw [List.contains_cons, hT, F.hasB, Bool.or_true]
  have hcA : (Value.ref C :: bm).contains (.type "AttributeError") = false := by rw [List.contains_cons, hT, F.noAttr]; rfl
  have hcN : (Value.ref C :: bm).contains (.type "NameError") = false := by rw [List.contains_cons, hT, F.noName]; rfl
  refine codeAny_builtinAt F.entry ?_
  unfold Builtin.«BaseException.__new__»
  refine wpAt_bind ?_
  show wpAt _ _ _ (stack >>= _) _ _ _
  refine wpAt_bind (wpAt_stack fun p below => wpAt_of_wpAny ?_)
  wp_walk
  refine wpAt_of_wpAny ?_
  rw [F.owner]
  repeat (first | with_reducible refine wpAny_madeHere_exc F.canon hC ?_ | with_reducible refine wpAny_loadPart_at hC ?_ | (with_reducible refine wpAny_isSubtype_exc hC ?_; first | rw [hcB] | rw [hcA] | rw [hcN]) | wp_step)
  show R _ _
  rw [Heap.size_push]
  exact hq
theorem type_call_ownK (F : ExcBaseFacts B newId initId bmB) (hT : ∀ X : String, bm.contains (.type X) = bmB.contains (.type X)) {rest : List Value} {kws : List (Str × Value)} {fI : Addr} {Q : Fin → Shared → Prop}
    (hC : h.get? C = some (excClassObj nm q C N bs bm hdct sn sub ab col dd k0 k1 k2 k3 k5 newId))
    (hi : W.Looks (model prog w) h (typeLookup (.ref C) "__init__") (some (.ref fI))) (hb : ∀ self, W.Looks (model prog w) h (bindSpecial (.ref fI) self) (.ref fI, [self])) (hrest : rest.length ≤ sizeLine)
    (hq : codeAny (model prog w) A (.call (.ref fI) ⟨.ref (h.objs.size + 1) :: rest, kws⟩)
      (fun r s' => match r with | .ok (.ret v) => v = .none ∧ Q (.done (.ret (.ref (h.objs.size + 1)))) s' | .ok _ => False | .error e => E e s')
      ⟨(h.push (W.kdv_tup rest)).push (excO C h.objs.size), g, d, t, os⟩) :
    wpAny (model prog w) A (Builtin.«type.__call__» ⟨.ref C :: rest, kws⟩) Q E ⟨h, g, d, t, os⟩ := by
  repeat (first | with_reducible refine wpAny_loadPart_at hC ?_ | with_reducible refine wpAny_madeBy_exc hC ?_ | wp_step)
  refine codeAny_call_builtin_code (Code.quiet_builtin _ F.quiet) (check_new_ownK F hT hC ?_)
  refine new_ownK F hT hC ?_ hrest
  show wpAny _ _ _ _ _ _
  have k : ∀ b o, h.get? b = some o → ((h.push (W.kdv_tup rest)).push (excO C h.objs.size)).get? b = some o := fun b o e => Heap.get?_push_of_some _ (Heap.get?_push_of_some _ e)
  have hC₁ := k _ _ hC
  have hget : ((h.push (W.kdv_tup rest)).push (excO C h.objs.size)).get? (h.objs.size + 1) = some (excO C h.objs.size) := by heap_get
  have hcC : (Value.ref C :: bm).contains (.ref C) = true := by simp
  have i1 := hi.keeps k
  have b1 := (hb (.ref (h.objs.size + 1))).keeps k
  unfold isInstance
  repeat (first | with_reducible refine wpAny_loadPart_at hget ?_ | (with_reducible refine wpAny_isSubtype_exc hC₁ ?_; rw [hcC]) | wp_step)
  show wpAny _ _ (typeLookup (.ref C) _) _ _ _
  refine i1.at ?_
  refine wpAny_holding (wpAny_bind (b1.at ?_))
  refine wpAny_bind (wpAny_call (codeAny_mono hq fun r s' z => ?_))
  rcases r with e | (v | _ | _ | _) <;> first | exact z | exact z.elim | skip
  obtain ⟨rfl, z⟩ := z
  first
    | exact wpAny_pure (wpAny_pure z)
    | (wp_walk; exact z)
theorem call_ownK (F : ExcBaseFacts B newId initId bmB) (hT : ∀ X : String, bm.contains (.type X) = bmB.contains (.type X)) {rest : List Value} {kws : List (Str × Value)} {fI : Addr}
    (hC : h.get? C = some (excClassObj nm q C N bs bm hdct sn sub ab col dd k0 k1 k2 k3 k5 newId))
    (hi : W.Looks (model prog w) h (typeLookup (.ref C) "__init__") (some (.ref fI))) (hb : ∀ self, W.Looks (model prog w) h (bindSpecial (.ref fI) self) (.ref fI, [self])) (hrest : rest.length ≤ sizeLine)
    (hq : codeAny (model prog w) (A.under (.builtin "type.__call__" ⟨.ref C :: rest, kws⟩)) (.call (.ref fI) ⟨.ref (h.objs.size + 1) :: rest, kws⟩) (W.InitBack (h.objs.size + 1) R)
      ⟨(h.push (W.kdv_tup rest)).push (excO C h.objs.size), g, d, t, os⟩) :
    codeAny (model prog w) A (.call (.ref C) ⟨rest, kws⟩) R ⟨h, g, d, t, os⟩ := by
  have f1 := tc_lookup
  have f2 := tc_bind (.ref C)
  have hTy : (⟨h, g, d, t, os⟩ : Shared).TypeIs (.ref C) "type" := ⟨_, hC, rfl⟩
  refine codeAny_of_tree ?_
  show wpAny _ _ (callAny (.ref C) _) _ _ _
  repeat (any_goals (first | assumption | with_reducible refine wpAny_loadPart_at hC ?_ | wp_step))
  refine ⟨rfl, ?_⟩
  refine codeAny_call_builtin_at (Code.quiet_builtin _ (by decide +kernel)) entry_typeCall (wpAny_check_type_call_sub hC (type_call_ownK F hT hC hi hb hrest ?_))
  refine codeAny_mono hq fun r s' z => ?_
  rcases r with e | (v | _ | _ | _) <;> exact z
end
end HandSPX2
end PySem
namespace My
open PySem PySem.Spec PyProof.Rows L2
/-- an error as a value: with its dict, or without one -/
def ErrV (H : Hp) (a D : Addr) : Prop := (∃ dx fs, H a = some (exo a D (some dx)) ∧ H dx = some (exd dx fs)) ∨ H a = some (ExO (.ref D) a)
theorem ErrV.on {H H' : Hp} {a D : Addr} (e : ErrV H a D) (s : Same H H') : ErrV H' a D := by
  rcases e with ⟨dx, fs, h1, h2⟩ | h
  · exact .inl ⟨dx, fs, s _ _ h1, s _ _ h2⟩
  · exact .inr (s _ _ h)
/-- an attribute of it -/
def ErrF (H : Hp) (a D : Addr) (n : Str) (v : V) : Prop := ∃ dx fs, H a = some (exo a D (some dx)) ∧ H dx = some (exd dx fs) ∧ fs.lookup n = some v
theorem ErrF.on {H H' : Hp} {a D : Addr} {n : Str} {v : V} (e : ErrF H a D n v) (s : Same H H') : ErrF H' a D n v := let ⟨dx, fs, h1, h2, h3⟩ := e; ⟨dx, fs, s _ _ h1, s _ _ h2, h3⟩
theorem ErrF.err {H : Hp} {a D : Addr} {n : Str} {v : V} (e : ErrF H a D n v) : ErrV H a D := let ⟨dx, fs, h1, h2, _⟩ := e; .inl ⟨dx, fs, h1, h2⟩
def rIsV (K : PySem.W.Frag) : List V → Hp → VK → Prop := fun xs H Q => ∃ (a D : Addr) (c : V) (cv : Value) (b : Bool), xs = [.ref a, c] ∧ ExcC K D ∧ ErrV H a D ∧ ClsV c cv ∧ PySem.W.kitOne K (.ref D) cv = some b ∧ Q (.bl b) H
theorem call_isV {X : Cx} : CallR X (.builtin "isinstance") (rIsV X.K) := by
  intro pins s σ H xs us Q I r h
  obtain ⟨a, D, c, cv, b, rfl, C, he, hcv, e, q⟩ := h
  obtain ⟨u, w', rfl, ru, rw'⟩ := vals2 r
  obtain rfl : u = Value.ref a := ru
  obtain rfl := hcv.eq rw'
  rcases he with ⟨dx, fs, h1, h2⟩ | h1
  · obtain ⟨t1, hget⟩ := exo_at I.hok h1
    obtain ⟨mA, hns, hrel⟩ := exd_at I.hok h2
    obtain ⟨od, ho, hl⟩ := lookIn_ns hns
    have J : PySem.W.InstAt s.heap a { cls := .ref D, dict := some dx, data := .fields #[.ref t1, .none, .none, .none, .bool false, .none] } D (some od) := ⟨hget, rfl, rfl, ho⟩
    exact PySem.W.kia_one (kit_err C) I.kIn J e (fun z => nomatch z) fun tk => ⟨.bl b, H, I.kept (t' := tk) fun _ _ z => z, rfl, q⟩
  · obtain ⟨⟨oe, vs, hget, hz, hv, _⟩, _, _⟩ := I.hok a _ h1
    have J : PySem.W.InstAt s.heap a oe D none := by
      obtain ⟨oc, od, oda, osl⟩ := oe
      obtain ⟨h1, h2⟩ := hz
      dsimp only at h1 h2 hv
      subst h1 h2 hv
      exact ⟨hget, rfl, rfl, trivial⟩
    exact PySem.W.kia_one (PySem.W.handS_kitx_exc C.hg C.hk C.hs C.hd C.ha C.hn C.ht C.hm) I.kIn J e (fun z => nomatch z) fun tk => ⟨.bl b, H, I.kept (t' := tk) fun _ _ z => z, rfl, q⟩
/-- o.f of an error held as a value -/
def tXv (D : Addr) (n : Str) (te : TE) : TE := fun σ H Q => te σ H fun x H1 => ∃ (a : Addr) (v : V), x = .ref a ∧ ErrF H1 a D n v ∧ Q v H1
theorem pe_xv {X : Cx} {D : Addr} {e : Expr} {te : TE} {pos : Pos} {n : Str} (T : XfC X.K D) (hno : PySem.W.findIn X.K (.ref D) n = some none) (he : PE X e te) (hb : attributeBase e n X.env (eval e X.env) = eval e X.env := by rfl) :
    PE X (.Attribute e n pos) (tXv D n te) := by
  refine ⟨fun pins s σ H Q I h => ?_⟩
  refine attr_of hb (thn (he.run pins s σ H _ I h) fun u s1 hh => ?_)
  obtain ⟨x, H1, I1, rx, a, v, ex, ⟨dd, fs, ea, ed, l⟩, q⟩ := hh
  subst ex
  obtain rfl : u = Value.ref a := rx
  obtain ⟨t1, hget⟩ := exo_at I1.hok ea
  obtain ⟨mA, hns, hr⟩ := exd_at I1.hok ed
  obtain ⟨od, ho, hl⟩ := lookIn_ns hns
  obtain ⟨u, hu, ru⟩ := RelO.some_of (v := v) (o := mA n) (by rw [← l]; exact hr n)
  have J : PySem.W.InstAt s1.heap a { cls := .ref D, dict := some dd, data := .fields #[.ref t1, .none, .none, .none, .bool false, .none] } D (some od) := ⟨hget, rfl, rfl, ho⟩
  exact HandSPX.exc_get I1.kIn J T.ga T.gg T.exC (PySem.W.findObj_own T.hdC hno rfl (by rw [hl, hu])) (handed_of ru) ⟨v, H1, I1.tok _, ru, q⟩
/-- C(e, ..), an own error class with an own __init__, as a value -/
structure mkO (C : Addr) (sp : Sp) (vs : List V) (H : Hp) (Q : VK) : Prop where
  len : vs.length ≤ 1000
  k : ∀ a, H a = none → sp (.ref a :: vs) (upd H a (exo a C none)) (fun v H2 => v = .non ∧ Q (.ref a) H2) E0
def tMkV (C : Addr) (sp : Sp) (ta : TA) : TE := fun σ H Q => ta σ H fun vs H1 => mkO C sp vs H1 Q
section
variable {X : Cx} {CX : CXT} {x : Str} {C fI : Addr} {k : Nat} {fd : FuncData} {ps ks : List Str} {sp : Sp} {p pos : Pos} {e : Expr} {es : List Expr} {ta tk : TA} {kws : List Keyword}
theorem run_oexK {pins : List (Addr × Obj)} {σ : L2.St} {H1 : Hp} {s1 : Shared} {Q : VK} {us : List Value} {kws0 : List (Str × Value)} {us2 : List Value} {vs : List V} (T : OexC X.K C) (iC : PySem.W.findIn X.K (.ref C) "__init__" = some (some (.ref fI))) (tI : PySem.W.typeIn X.K (.ref fI) = some (.type "function"))
    (F1 : FnOk X.prog X.w X.K X.mg X.base CX k fI fd ps sp) (hr : Room (k + 1) X.A) (hb : ∀ (s : Shared) (u : Value), X.K.In s.heap → BindsTo s fd ⟨u :: us, kws0⟩ (ps.zip (u :: us2))) (hx : Passes CX X E0) (I1 : Inv X pins σ H1 s1) (r1 : Vals vs us2) (hz : us.length ≤ 1000)
    (q1 : ∀ a, H1 a = none → sp (.ref a :: vs) (upd H1 a (exo a C none)) (fun v H2 => v = .non ∧ Q (.ref a) H2) E0) : wpAny (model X.prog X.w) X.A (call (.ref C) us kws0) (EP X pins σ Q) X.xe s1 := by
  obtain ⟨nm, q, N, bs, bm, sn, sub, ab, col, dd, k0, k1, k2, k3, k5, hC, hbm⟩ := T.cls
  obtain ⟨hp, g, dr, tk, os⟩ := s1
  have hsz : hp.objs.size ≤ hp.objs.size + 1 := Nat.le_succ _
  have hn : H1 (hp.objs.size + 1) = none := I1.hok.fresh hsz
  have hq := q1 (hp.objs.size + 1) hn
  have kk : ∀ b o, hp.get? b = some o → ((hp.push (PySem.W.kdv_tup us)).push (PySem.HandSPX.excO C hp.objs.size)).get? b = some o := fun b o e => Heap.get?_push_of_some _ (Heap.get?_push_of_some _ e)
  have hget : ((hp.push (PySem.W.kdv_tup us)).push (PySem.HandSPX.excO C hp.objs.size)).get? (hp.objs.size + 1) = some (PySem.HandSPX.excO C hp.objs.size) := by heap_get
  have I2 : Inv X pins σ (upd H1 (hp.objs.size + 1) (exo (hp.objs.size + 1) C none)) ⟨(hp.push (PySem.W.kdv_tup us)).push (PySem.HandSPX.excO C hp.objs.size), g, dr, tk, os⟩ :=
    I1.laid (t' := tk) (a := hp.objs.size + 1) (o := exo (hp.objs.size + 1) C none) (h' := (hp.push (PySem.W.kdv_tup us)).push (PySem.HandSPX.excO C hp.objs.size)) kk hsz (exo_ok hget)
  have r2 : Vals (V.ref (hp.objs.size + 1) :: vs) (Value.ref (hp.objs.size + 1) :: us2) := .cons rfl r1
  have b := hb ⟨(hp.push (PySem.W.kdv_tup us)).push (PySem.HandSPX.excO C hp.objs.size), g, dr, tk, os⟩ (Value.ref (hp.objs.size + 1)) I2.kIn
  have hus : us.length ≤ sizeLine := by
    rw [sizeLine_eq]
    omega
  refine wpAny_call (PySem.HandSPX2.call_ownK F.excBase_ValueError (fun Y => PySem.HandSPX.refsVE_contains Y bm hbm) (I1.kIn _ _ hC) (PySem.W.looks_findIn I1.kIn iC) (fun self => PySem.W.bind_fn I1.kIn self tI) hus
    (codeAny_mono (F1.run _ X.stack _ _ ⟨Value.ref (hp.objs.size + 1) :: us, kws0⟩ (Value.ref (hp.objs.size + 1) :: us2) _ _ E0 (hr.make C us kws0) (I2.env0.make C us kws0) b r2 hq) fun r s' hq' => ?_))
  cases r with
  | error er => exact hx pins σ _ _ er s' I2 hq'
  | ok fl =>
    cases fl with
    | ret u =>
      obtain ⟨v, H2, os2, bare2, un2, hok2, rv, ev, q2⟩ := hq'
      subst ev
      obtain ⟨h2, g2, d2, t2, os'⟩ := s'
      obtain rfl : os' = os := os2
      refine ⟨rv, ?_⟩
      exact ⟨.ref (hp.objs.size + 1), H2, I1.call (h' := h2) (g' := g2) (d' := d2) (t' := t2) (ch := []) (.trans (Un.laidN (fs := frs X.stack) (ex := []) (o := exo (hp.objs.size + 1) C none) kk (Heap.get?_none_of_le hsz) hn) un2) hok2 bare2 (fun b z => absurd z (by simp)), rfl, q2⟩
    | next => exact False.elim hq'
    | brk => exact False.elim hq'
    | cont => exact False.elim hq'
theorem pe_oex (T : OexC X.K C) (iC : PySem.W.findIn X.K (.ref C) "__init__" = some (some (.ref fI))) (tI : PySem.W.typeIn X.K (.ref fI) = some (.type "function"))
    (F1 : FnOk X.prog X.w X.K X.mg X.base CX k fI fd ps sp) (hr : Room (k + 1) X.A) (hb : Binds X.K fd ps []) (hx : Passes CX X E0) (hg : Gl X x) (hm : X.mg x = some (.ref C)) (ha : PA X (e :: es) ta)
    (hdb : (x == ("__debug__" : Str)) = false := by decide) (he : starEach (e :: es) X.env = (false, eval e X.env) :: starEach es X.env := by rfl) (hpl : (backTo pos (starEach es X.env)).any (·.1) = false := by rfl) :
    PE X (.Call (.Name x p) (e :: es) [] pos) (tMkV C sp ta) := by
  refine ⟨fun pins s σ H Q I h => ?_⟩
  refine wpAny_Call_Name_kw (ld_glob I hg hm ?_ hdb)
  refine PySem.W.callWith_K (h₀ := X.base) I.ok.mod.kin T.kC (thn (ha.run pos pins s σ H _ I h) fun us s1 ⟨vs, H1, I1, r1, hz, q1⟩ => ⟨I1.kIn, ?_⟩) he hpl
  refine run_oexK (us := us) (us2 := us) (kws0 := []) T iC tI F1 hr (fun s' u hK => ?_) hx I1 r1 (by rw [← Paired.length r1]; exact hz) q1
  have hl : (u :: us).length = ps.length := by
    have e := F1.len _ _ _ _ (q1 s1.heap.objs.size (I1.hok.fresh (Nat.le_refl _)))
    rw [← e, List.length_cons, List.length_cons, Paired.length r1]
  have b := hb s' (u :: us) hK (by rw [List.append_nil]; exact hl)
  rw [List.append_nil] at b
  exact b
/-- C(k = e, ..) -/
structure mkOK (C : Addr) (sp : Sp) (is : List Nat) (n : Nat) (zs : List V) (H : Hp) (Q : VK) : Prop where
  len : zs.length = n
  k : ∀ a, H a = none → sp (.ref a :: permL is zs) (upd H a (exo a C none)) (fun v H2 => v = .non ∧ Q (.ref a) H2) E0
def tMkVK (C : Addr) (sp : Sp) (is : List Nat) (n : Nat) (tk : TA) : TE := fun σ H Q => tk σ H fun zs H1 => mkOK C sp is n zs H1 Q
theorem pe_oexK {is : List Nat} (T : OexC X.K C) (iC : PySem.W.findIn X.K (.ref C) "__init__" = some (some (.ref fI))) (tI : PySem.W.typeIn X.K (.ref fI) = some (.type "function"))
    (F1 : FnOk X.prog X.w X.K X.mg X.base CX k fI fd ps sp) (hr : Room (k + 1) X.A) (hb : ∀ (s : Shared) (u : Value) (ws : List Value), ws.length = ks.length → BindsTo s fd ⟨[u], ks.zip ws⟩ (ps.zip (u :: permL is ws))) (hx : Passes CX X E0) (hg : Gl X x) (hm : X.mg x = some (.ref C))
    (hkw : PK X kws tk) (hall : (backToKw pos (keywordEach kws X.env)).all (·.1.isSome) = true := by rfl) (hks : (backToKw pos (keywordEach kws X.env)).filterMap (·.1) = ks := by rfl)
    (hdb : (x == ("__debug__" : Str)) = false := by decide)
    (hpl : ((backTo pos (starEach [] X.env)).any (·.1) || (backToKw pos (keywordEach kws X.env)).any (·.1.isNone)) = false := by rfl) :
    PE X (.Call (.Name x p) [] kws pos) (tMkVK C sp is ks.length tk) := by
  refine ⟨fun pins s σ H Q I h => ?_⟩
  refine wpAny_Call_Name_kw (ld_glob I hg hm ?_ hdb)
  refine PySem.W.callWith_KW0 (h₀ := X.base) I.ok.mod.kin T.kC hall (thn (hkw.run pos pins s σ H _ I h) fun ws s2 ⟨zs, H2, I2, rz, hz, q2⟩ => ⟨I2.kIn, ?_⟩) hpl
  rw [hks]
  exact run_oexK (us := []) (us2 := permL is ws) T iC tI F1 hr (fun s' u hK => hb s' u ws (by rw [← Paired.length rz]; exact hz)) hx I2 (permL_rel is rz) (Nat.zero_le _) q2
/-- C(), an own error class without an own __init__ -/
theorem pe_exc0 {bmB : List Value} {B newId initId : String} (F : ExcBaseFacts B newId initId bmB) (q : PySem.W.excIn X.K C bmB newId = true) (gC : X.mg x = some (.ref C)) (kC : PySem.W.keepIn X.K (.ref C) = true) (hg : Gl X x) (hdb : (x == ("__debug__" : Str)) = false := by decide) :
    PE X (.Call (.Name x p) [] [] pos) (fun σ H Q => ∀ a, H a = none → Q (.ref a) (upd H a (ExO (.ref C) a))) := by
  refine ⟨fun pins s σ H Q I h => ?_⟩
  refine wpAny_Call_Name_kw (ld_glob I hg gC ?_ hdb)
  refine PySem.W.callWith_KW0 (h₀ := X.base) I.ok.mod.kin kC (by rfl) (thn (pk_nil.run pos pins s σ H (fun vs H1 => vs = [] ∧ H1 = H) I ⟨rfl, rfl⟩) fun ws s2 ⟨zs, H2, I2, rz, ez, eH⟩ => ⟨I2.kIn, ?_⟩) (by rfl)
  subst eH
  show wpAny _ _ (call (.ref C) []) _ _ _
  obtain ⟨bm, N, nm, qn, bs, hdct, sn, sub, ab, col, dd, k0, k1, k2, k3, k5, mN, hC, hN, hni, T⟩ := exc_obj I2.kIn q
  refine wpAny_call_exc_subT F T hC hN hni (fun h' a hm => ?_) (Nat.zero_le _)
  have hn : H2 a = none := I2.hok.gone hm.new
  obtain ⟨t, ht, _, _⟩ := hm.there
  exact ⟨.ref a, upd H2 a (ExO (.ref C) a), I2.laidN hm.keeps hm.new hn (exO_ok ht ⟨rfl, rfl⟩ rfl rfl rfl (show 4 < 6 by decide)), rfl, h a hn⟩
end
/-! ### != of two lists of the same things -/
section
variable {X : Cx}
def plainW : V → Bool
  | .int _ => true
  | .ref _ => true
  | .str _ => true
  | .non => true
  | _ => false
def rNeSameW (K : PySem.W.Frag) : R2 := fun x y H Q => ∃ a b xs, x = .ref a ∧ y = .ref b ∧ SqL K H a xs ∧ SqL K H b xs ∧ (∀ z ∈ xs, plainW z = true) ∧ Q (.bl false) H
theorem eqAt_sameW {A : Around} {s : Shared} {z : V} {u v : Value} (h : plainW z = true) (r : RelV z u) (r' : RelV z v) : SeqAt.EqAt A s u v true := by
  cases z with
  | int i =>
    have := eqAt_V (A := A) (s := s) r r' rfl rfl
    have e : eqV (.int i) (.int i) = true := by simp [eqV]
    rw [e] at this
    exact this
  | str i =>
    have := eqAt_V (A := A) (s := s) r r' rfl rfl
    have e : eqV (.str i) (.str i) = true := by simp [eqV]
    rw [e] at this
    exact this
  | non =>
    have := eqAt_V (A := A) (s := s) r r' rfl rfl
    have e : eqV .non .non = true := by simp [eqV]
    rw [e] at this
    exact this
  | ref a =>
    obtain rfl : u = Value.ref a := r
    obtain rfl : v = Value.ref a := r'
    exact SeqAt.EqAt.same _
  | _ => cases h
theorem op_neSameW (hu : X.A.units < cLine) : OpR X (compareOp .NotEq) (rNeSameW X.K) := by
  intro pins s σ H x y v u Q I rx ry h
  obtain ⟨a, b, xs, rfl, rfl, ha, hb, hp, q⟩ := h
  obtain rfl : v = Value.ref a := rx
  obtain rfl : u = Value.ref b := ry
  obtain ⟨its, r, ⟨o, n, e, c, d, dt⟩, _⟩ := I.list ha
  obtain ⟨its2, r2, ⟨o2, n2, e2, c2, d2, dt2⟩, _⟩ := I.list hb
  have hsz : its.toArray.size = its2.toArray.size := by rw [List.size_toArray, List.size_toArray, ← r.length, ← r2.length]
  show wpAny (model X.prog X.w) X.A (richCompare .NotEq (.ref a) (.ref b)) (EP X pins σ Q) X.xe s
  refine SeqAt.RcNeAt.lists (e := fun _ => true) ⟨o, e, c, n, dt⟩ ⟨o2, e2, c2, n2, dt2⟩ hsz hu (fun j h1 h2 => ?_) _ _ _ _ ?_
  · have k1 : j < xs.length := by rw [r.length]; simpa using h1
    obtain ⟨w1, hw1, rw1⟩ := r.get (List.getElem?_eq_getElem k1)
    obtain ⟨w2, hw2, rw2⟩ := r2.get (List.getElem?_eq_getElem k1)
    have g1 : its[j]? = some its.toArray[j] := by
      have h1' : j < its.length := by simpa using h1
      rw [List.getElem?_eq_getElem h1'] <;> simp
    have g2 : its2[j]? = some its2.toArray[j] := by
      have h2' : j < its2.length := by simpa using h2
      rw [List.getElem?_eq_getElem h2'] <;> simp
    rw [g1] at hw1
    rw [g2] at hw2
    rw [Option.some.inj hw1, Option.some.inj hw2]
    exact eqAt_sameW (hp _ (List.getElem_mem k1)) rw1 rw2
  · have e : (!(List.range its.toArray.size).all fun _ => true) = false := by simp
    rw [e]
    exact ⟨.bl false, H, I, rfl, q⟩
def rEqSameW (K : PySem.W.Frag) : R2 := fun x y H Q => ∃ a b xs, x = .ref a ∧ y = .ref b ∧ SqL K H a xs ∧ SqL K H b xs ∧ (∀ z ∈ xs, plainW z = true) ∧ Q (.bl true) H
theorem op_eqSameW (hu : X.A.units < cLine) : OpR X (compareOp .Eq) (rEqSameW X.K) := by
  intro pins s σ H x y v u Q I rx ry h
  obtain ⟨a, b, xs, rfl, rfl, ha, hb, hp, q⟩ := h
  obtain rfl : v = Value.ref a := rx
  obtain rfl : u = Value.ref b := ry
  obtain ⟨its, r, ⟨o, n, e, c, d, dt⟩, _⟩ := I.list ha
  obtain ⟨its2, r2, ⟨o2, n2, e2, c2, d2, dt2⟩, _⟩ := I.list hb
  have hsz : its.toArray.size = its2.toArray.size := by rw [List.size_toArray, List.size_toArray, ← r.length, ← r2.length]
  show wpAny (model X.prog X.w) X.A (richCompare .Eq (.ref a) (.ref b)) (EP X pins σ Q) X.xe s
  refine SeqAt.RcAt.lists (e := fun _ => true) ⟨o, e, c, n, dt⟩ ⟨o2, e2, c2, n2, dt2⟩ hsz hu (fun j h1 h2 => ?_) _ _ _ _ ?_
  · have k1 : j < xs.length := by rw [r.length]; simpa using h1
    obtain ⟨w1, hw1, rw1⟩ := r.get (List.getElem?_eq_getElem k1)
    obtain ⟨w2, hw2, rw2⟩ := r2.get (List.getElem?_eq_getElem k1)
    have g1 : its[j]? = some its.toArray[j] := by
      have h1' : j < its.length := by simpa using h1
      rw [List.getElem?_eq_getElem h1'] <;> simp
    have g2 : its2[j]? = some its2.toArray[j] := by
      have h2' : j < its2.length := by simpa using h2
      rw [List.getElem?_eq_getElem h2'] <;> simp
    rw [g1] at hw1
    rw [g2] at hw2
    rw [Option.some.inj hw1, Option.some.inj hw2]
    exact eqAt_sameW (hp _ (List.getElem_mem k1)) rw1 rw2
  · have e : ((List.range its.toArray.size).all fun _ => true) = true := by simp
    rw [e]
    exact ⟨.bl true, H, I, rfl, q⟩
end
/-! ### an error class right under the common one -/
structure ErrC (K : PySem.W.Frag) (C EE : Addr) : Prop where
  ec : ExcC K C
  ic : PySem.W.isClsIn K C = true
  ty : PySem.W.typeIn K (.ref C) = some (.type "type")
  cl : ∃ cd, PySem.W.clsIn K C = some cd ∧ cd.mro = [.ref C, .ref EE, .type "ValueError", .type "Exception", .type "BaseException", .type "object"]
theorem ErrC.sub {K : PySem.W.Frag} {C EE : Addr} (e : ErrC K C EE) (base : Value) : PySem.W.mroIn K C base = some ([Value.ref C, .ref EE, .type "ValueError", .type "Exception", .type "BaseException", .type "object"].contains base) := by
  obtain ⟨cd, hc, hm⟩ := e.cl
  unfold PySem.W.mroIn
  rw [hc, Option.bind_some, hm]
  rfl
end My

set_option maxHeartbeats 4000000
/-! My own rules: an instance that is called, also by keywords, also where it raises; a class method by keywords in any order; a dict comprehension over any walk. -/
namespace My
open PySem PySem.Spec PyProof.Rows L2
section
variable {X : Cx} {CX : CXT} {k : Nat} {C g : Addr} {fd : FuncData} {ps ks : List Str} {sp : Sp} {E : L2.St → XK} {fe e : Expr} {es : List Expr} {kws : List Keyword} {pos : Pos} {tf : TE} {t tk : TA}
/-- f(e, ..), f an instance of C, what is let out wished for at the caller's slots -/
def tCallOE (X : Cx) (C : Addr) (sp : Sp) (E : L2.St → XK) (tf : TE) (t : TA) : TE := fun σ H Q => tf σ H fun y H1 => ∃ a, y = V.ref a ∧ t σ H1 fun vs H2 => StX.InsC X H2 a C ∧ sp (V.ref a :: vs) H2 Q (E σ)
theorem pe_callOE (hf : PE X fe tf) (c : StX.CallO X.K C g) (F : FnOk X.prog X.w X.K X.mg X.base CX k g fd ps sp) (hr : Room k X.A) (hb : Binds X.K fd ps []) (hx : ∀ σ, PassesAt CX X σ (E σ)) (ha : PA X (e :: es) t)
    (ht : eval (.Call fe (e :: es) [] pos) X.env = (do callWith pos (← eval fe X.env) [] (backTo pos (starEach (e :: es) X.env)) (backToKw pos (keywordEach [] X.env))) := by rfl)
    (he : starEach (e :: es) X.env = (false, eval e X.env) :: starEach es X.env := by rfl) (hpl : (backTo pos (starEach es X.env)).any (·.1) = false := by rfl) : PE X (.Call fe (e :: es) [] pos) (tCallOE X C sp E tf t) := by
  refine ⟨fun pins s σ H Q I h => ?_⟩
  refine Call_ (thn (hf.run pins s σ H _ I h) fun u s1 ⟨y, H1, I1, ry, a, ey, q⟩ => ?_) ht
  subst ey
  obtain rfl : u = Value.ref a := ry
  refine StX.callO_with (thn (ha.run pos pins s1 σ H1 _ I1 q) fun us s2 ⟨vs, H2, I2, r, hi, q2⟩ => ?_) he hpl
  obtain ⟨ox, od, J, hd⟩ := StX.insC_at I2 hi
  refine ⟨⟨C, ox, od, J, hd⟩, wpAny_call (PySem.W.kco_code I2.kIn J hd c.at_ c.fn c.fi ?_)⟩
  have r2 : Vals (V.ref a :: vs) (Value.ref a :: us) := .cons rfl r
  have hl : (Value.ref a :: us).length = ps.length := by rw [← r2.length]; exact F.len _ _ _ _ q2
  have b := hb s2 (Value.ref a :: us) I2.kIn (by rw [List.append_nil]; exact hl)
  rw [List.append_nil] at b
  refine codeAny_mono (F.run X.A X.stack s2 H2 ⟨Value.ref a :: us, []⟩ (Value.ref a :: us) (V.ref a :: vs) Q (E σ) hr I2.env0 b r2 q2) fun r s' hq => ?_
  cases r with
  | error er => exact hx σ _ H2 s2 er s' I2 hq
  | ok fl =>
    cases fl with
    | ret u => exact I2.after hq
    | next => exact False.elim hq
    | brk => exact False.elim hq
    | cont => exact False.elim hq
end
section
variable {X : Cx} {CX : CXT} {k : Nat} {C q0 g : Addr} {mc : Value} {fd : FuncData} {ps ks : List Str} {sp : Sp} {E : XK} {o : Expr} {m : Str} {pos apos : Pos} {kws : List Keyword} {ta : TE} {tk : TA} {pl : Sem Bool} {gg : List Value → List Value → List Value} {gV : List V → List V → List V}
def tCMethKN (C : Addr) (n : Nat) (sp : Sp) (gV : List V → List V → List V) (E : XK) (ta : TE) (tk : TA) : TE := fun σ H Q => ta σ H fun x H1 => x = .ref C ∧ tk σ H1 fun zs H2 => zs.length = n ∧ sp (gV [.ref C] zs) H2 Q E
theorem pe_cmethKN (he : PE X o ta) (r : ClX.CRead X.K C mc) (c : ClX.CMet X.K C mc m q0 g) (F : FnOk X.prog X.w X.K X.mg X.base CX k g fd ps sp) (hr : Room k X.A) (hx : Passes CX X E) (hkw : PK X kws tk)
    (hb : KBn X.K fd ps (0 + 1) ks gg gV)
    (hall : (backToKw pos (keywordEach kws X.env)).all (·.1.isSome) = true := by rfl) (hks : (backToKw pos (keywordEach kws X.env)).filterMap (·.1) = ks := by rfl)
    (hpl : ((backTo pos (starEach [] X.env)).any (·.1) || (backToKw pos (keywordEach kws X.env)).any (·.1.isNone)) = false := by rfl)
    (ht : eval (.Call (.Attribute o m apos) [] kws pos) X.env = (do
      let ov ← eval o X.env
      standAt apos.atName
      let (f, first) ← holding [ov] (getMethod ov m pl)
      callWith pos f first (backTo pos (starEach [] X.env)) (backToKw pos (keywordEach kws X.env))) := by rfl) :
    PE X (.Call (.Attribute o m apos) [] kws pos) (tCMethKN C ks.length sp gV E ta tk) := by
  refine ⟨fun pins s σ H Q I h => ?_⟩
  refine PySem.W.methodCall_KW (pl := pl) (thn (he.run pins s σ H _ I h) fun u s1 ⟨x, H1, I1, rx, ex, h2⟩ => ?_) ht
  subst ex
  obtain rfl : u = Value.ref C := rx
  refine ClX.getmethcm_ok I1 r c fun s2 I2 => ?_
  refine PySem.W.callWith_of hpl (PySem.W.keeps_M (K := X.K) (self := Value.ref C) c.fi) (evalArgs_kw2_nil hall (thn (hkw.run pos _ s2 σ H1 _ I2 h2) fun ws s3 ⟨zs, H2, I3, rz, hl, h3⟩ => ⟨⟨ClX.pin_at I3, I3.kIn⟩, ?_⟩))
  rw [hks]
  suffices z : wpAny (model X.prog X.w) X.A (call (.ref s1.heap.objs.size) [] (ks.zip ws)) (EP X ((s1.heap.objs.size, PySem.W.methodObj (.ref g) (.ref C)) :: pins) σ Q) X.xe s3 from thn z fun _ _ y => ClX.unpinE y
  refine wpAny_call (PySem.W.method_call (ClX.pin_at I3) ?_)
  have r1 : Vals [V.ref C] [Value.ref C] := .cons rfl .nil
  have r2 := hb.rel r1 rz
  refine codeAny_mono (F.run X.A X.stack s3 H2 ⟨Value.ref C :: [], ks.zip ws⟩ (gg [Value.ref C] ws) (gV [V.ref C] zs) Q E hr I3.env0 (hb.to s3 [Value.ref C] ws I3.kIn rfl (rz.length.symm.trans hl)) r2 h3) fun r s' hq => ?_
  cases r with
  | error er => exact hx _ σ H2 s3 er s' I3 hq
  | ok fl =>
    cases fl with
    | ret u => exact I3.after hq
    | next => exact False.elim hq
    | brk => exact False.elim hq
    | cont => exact False.elim hq
end
/-! ### an instance called by keywords -/
theorem callOK_of {M : Model} {A : Around} {E : Value → Shared → Prop} {s : Shared} {a : Addr} {pos : Pos} {Q : Value → Shared → Prop} {args : List (Bool × Sem Value)} {kws : List (Option Str × Sem Value)} (hplain : (args.any (·.1) || kws.any (·.1.isNone)) = false)
    (h : wpAny M A (evalArgs (.ref a) true args kws) (fun z s₁ => (∃ C ox od, PySem.W.InstAt s₁.heap a ox C od ∧ ox.data = .plain) ∧ wpAny M A (call (.ref a) ([] ++ z.pos) z.kw) Q E s₁) E s) : wpAny M A (callWith pos (.ref a) [] args kws) Q E s := by
  unfold callWith
  have h1 := (Bool.or_eq_false_iff.mp hplain).1
  have h2 := (Bool.or_eq_false_iff.mp hplain).2
  refine wpAny_bind (wpAny_holding (wpAny_mono (by first | exact h | (simp only [h1, h2]; exact h)) (fun z s₁ h₁ => wpAny_bind (wpAny_standAt ?_)) fun _ _ y => y))
  obtain ⟨⟨C, ox, od, J, hd⟩, h₁⟩ := h₁
  have L := PySem.W.kco_keeper (M := M) J hd
  simp only [h1, h2]
  refine wpAny_bind (L.here ?_)
  have tail : ∀ {t : Sem Value}, wpAny M A t Q E s₁ → wpAny M A (t >>= fun r => holding [r] point >>= fun _ => pure r) Q E s₁ :=
    fun ht => wpAny_bind (wpAny_mono ht (fun r s₂ hr => wpAny_bind (wpAny_holding (wpAny_point (wpAny_pure hr)))) fun _ _ y => y)
  exact tail (wpAny_operateT h₁)
section
variable {X : Cx} {CX : CXT} {k : Nat} {C g : Addr} {fd : FuncData} {ps ks : List Str} {sp : Sp} {E : XK} {fe : Expr} {kws : List Keyword} {pos : Pos} {tf : TE} {tk : TA}
def tCallOK (X : Cx) (C : Addr) (n : Nat) (sp : Sp) (E : XK) (tf : TE) (tk : TA) : TE := fun σ H Q => tf σ H fun y H1 => ∃ a, y = V.ref a ∧ tk σ H1 fun zs H2 => zs.length = n ∧ StX.InsC X H2 a C ∧ sp (V.ref a :: zs) H2 Q E
theorem pe_callOK (hf : PE X fe tf) (c : StX.CallO X.K C g) (F : FnOk X.prog X.w X.K X.mg X.base CX k g fd ps sp) (hr : Room k X.A) (hx : Passes CX X E) (hkw : PK X kws tk)
    (hb : ∀ (s : Shared) (u : Value) (ws : List Value), X.K.In s.heap → ws.length = ks.length → BindsTo s fd ⟨[u], ks.zip ws⟩ (ps.zip (u :: ws)))
    (hall : (backToKw pos (keywordEach kws X.env)).all (·.1.isSome) = true := by rfl) (hks : (backToKw pos (keywordEach kws X.env)).filterMap (·.1) = ks := by rfl)
    (hpl : ((backTo pos (starEach [] X.env)).any (·.1) || (backToKw pos (keywordEach kws X.env)).any (·.1.isNone)) = false := by rfl)
    (ht : eval (.Call fe [] kws pos) X.env = (do callWith pos (← eval fe X.env) [] (backTo pos (starEach [] X.env)) (backToKw pos (keywordEach kws X.env))) := by rfl) :
    PE X (.Call fe [] kws pos) (tCallOK X C ks.length sp E tf tk) := by
  refine ⟨fun pins s σ H Q I h => ?_⟩
  show wpAny _ _ (eval (.Call fe [] kws pos) X.env) _ _ _
  rw [ht]
  refine wpAny_bind (thn (hf.run pins s σ H _ I h) fun u s1 ⟨y, H1, I1, ry, a, ey, q⟩ => ?_)
  subst ey
  obtain rfl : u = Value.ref a := ry
  refine callOK_of hpl (evalArgs_kw2_nil hall (thn (hkw.run pos pins s1 σ H1 _ I1 q) fun ws s2 ⟨zs, H2, I2, rz, hl, hi, q2⟩ => ?_))
  rw [hks]
  obtain ⟨ox, od, J, hd⟩ := StX.insC_at I2 hi
  refine ⟨⟨C, ox, od, J, hd⟩, wpAny_call (PySem.W.kco_code I2.kIn J hd c.at_ c.fn c.fi ?_)⟩
  have r2 : Vals (V.ref a :: zs) (Value.ref a :: ws) := .cons rfl rz
  refine codeAny_mono (F.run X.A X.stack s2 H2 ⟨Value.ref a :: [], ks.zip ws⟩ (Value.ref a :: ws) (V.ref a :: zs) Q E hr I2.env0 (hb s2 (.ref a) ws I2.kIn (rz.length.symm.trans hl)) r2 q2) fun r s' hq => ?_
  cases r with
  | error er => exact hx _ σ H2 s2 er s' I2 hq
  | ok fl =>
    cases fl with
    | ret u => exact I2.after hq
    | next => exact False.elim hq
    | brk => exact False.elim hq
    | cont => exact False.elim hq
end
end My

/-! My own rules: an instance in a list of ints and itself, != an int, within an except suite. -/
namespace My
open PySem PySem.Spec PyProof.Rows L2
section
open PySem.SeqAt MeetsSeq MeetsSeq2 MeetsSeq3 SeqRoads2
variable {prog : Program} {w : World} {A : Around} {R : Result → Shared → Prop}
theorem eqBool_same {A : Around} {Ex : Value → Shared → Prop} {s : Shared} {a : Addr} {Q : Bool → Shared → Prop} (h : Q true s) : wpAny (model prog w) A (eqBool (.ref a) (.ref a)) Q Ex s := by
  unfold eqBool
  refine wpAny_holding ?_
  refine wpAny_ite_split (fun _ => ?_) (fun hab => absurd (beq_self_eq_true _) hab)
  wp_walk
  exact h
theorem contains_loopT (l : Addr) (x : Value) (j : Nat) (I : Shared → Prop)
    (hl : ∀ s, I s → ∃ (items : Array Value) (n : Nat), s.heap.get? l = some { cls := .type "list", data := .seq items n } ∧ j < items.size ∧ ∀ i (h : i < items.size), i ≤ j → wpAny (model prog w) A.in1 (eqBool items[i] x) (fun r s' => r = decide (i = j) ∧ I s') (fun e s' => R (.error e) s') s)
    (fin : ∀ s, I s → R (.ok (.ret (.bool true))) s) (k : Nat) :
    ∀ i : Nat, j - i = k → i ≤ j → ∀ s, I s → wpAny (model prog w) A.in1 (Builtin.«list.__contains__.loop» ⟨[.ref l, x, rawInt i], []⟩) (GQ.FinOf prog w A R) (fun e s' => R (.error e) s') s := by
  induction k with
  | zero =>
    intro i hk hi s h
    obtain ⟨items, n, hl1, hs1, turn⟩ := hl _ h
    have hlt : i < items.size := by omega
    have ht := turn i hlt hi
    obtain ⟨hp, g, d, tk, os⟩ := s
    wp_walk using AutoSeq1.wpAny_loadPart' hl1
    have hi1 : items[((i : Nat) : Int).toNat]? = some items[i] := by simp [hlt]
    rw [hi1]
    refine wpAny_bind (wpAny_mono ht (fun r s2 h2 => ?_) fun _ _ x => x)
    obtain ⟨hr, h2⟩ := h2
    rw [decide_eq_true (show i = j by omega)] at hr
    subst hr
    have hR := fin s2 h2
    obtain ⟨hp2, g2, d2, tk2, os2⟩ := s2
    wp_walk
    exact hR
  | succ k ih =>
    intro i hk hi s h
    obtain ⟨items, n, hl1, hs1, turn⟩ := hl _ h
    have hlt : i < items.size := by omega
    have ht := turn i hlt hi
    obtain ⟨hp, g, d, tk, os⟩ := s
    wp_walk using AutoSeq1.wpAny_loadPart' hl1
    have hi1 : items[((i : Nat) : Int).toNat]? = some items[i] := by simp [hlt]
    have hc : ((i : Int) + 1) = ((i + 1 : Nat) : Int) := by omega
    rw [hi1]
    refine wpAny_bind (wpAny_mono ht (fun r s2 h2 => ?_) fun _ _ x => x)
    obtain ⟨hr, h2⟩ := h2
    rw [decide_eq_false (show ¬ i = j by omega)] at hr
    subst hr
    have hrec := ih (i + 1) (by omega) (by omega) s2 h2
    obtain ⟨hp2, g2, d2, tk2, os2⟩ := s2
    wp_walk
    rw [hc]
    exact ⟨plainId_quiet plain_contains_loop _, codeAny_builtin entry_contains_loop (by
      rw [Around.under_plainId plain_contains_loop _]
      exact hrec)⟩
theorem list_containsT (l : Addr) (x : Value) (j : Nat) (I : Shared → Prop)
    (hl : ∀ s, I s → ∃ (items : Array Value) (n : Nat), s.heap.get? l = some { cls := .type "list", data := .seq items n } ∧ j < items.size ∧ ∀ i (h : i < items.size), i ≤ j → wpAny (model prog w) A.in1 (eqBool items[i] x) (fun r s' => r = decide (i = j) ∧ I s') (fun e s' => R (.error e) s') s)
    (fin : ∀ s, I s → R (.ok (.ret (.bool true))) s) {s : Shared} (h : I s) : wpAny (model prog w) A.in1 (Builtin.«list.__contains__» ⟨[.ref l, x], []⟩) (GQ.FinOf prog w A R) (fun e s' => R (.error e) s') s := by
  have hrec := contains_loopT (A := A) (R := R) l x j I hl fin _ 0 rfl (Nat.zero_le _) s h
  obtain ⟨items, n, hl1, _, _⟩ := hl _ h
  obtain ⟨hp, g, d, tk, os⟩ := s
  wp_walk using AutoSeq1.wpAny_loadPart' hl1
  exact ⟨plainId_quiet plain_contains_loop _, codeAny_builtin entry_contains_loop (by
    rw [Around.under_plainId plain_contains_loop _]
    exact hrec)⟩
end
/-- an instance != an int -/
theorem ne_KI {prog : Program} {w : World} {A : Around} {Ex : Value → Shared → Prop} {s : Shared} {K : PySem.W.Frag} {C f a : Addr} {oa : Obj} {oda : Option Obj} {i : Int} {tk : Tok} {Q : Value → Shared → Prop} (hu : A.units + 1 < cLine) (X : K.In s.heap) (N : NoNe K C f)
    (hi : PySem.W.subIn K (.type "int") (.ref C) = some false) (I : PySem.W.InstAt s.heap a oa C oda) (h : wpAny (model prog w) A.in1 (call (.ref f) [.ref a, .int i tk]) (fun v s' => ∃ r, v = .bool r ∧ Q (.bool (!r)) s') Ex s) :
    wpAny (model prog w) A (richCompare .NotEq (.ref a) (.int i tk)) Q Ex s := by
  have body : wpAny (model prog w) A.in1 (Builtin.«object.__ne__» ⟨[.ref a, .int i tk], []⟩) (fun fin s' => ∃ r, fin = .done (.ret (.bool (!r))) ∧ Q (.bool (!r)) s') Ex s := by
    unfold Builtin.«object.__ne__»
    refine wpAny_bind (wpAny_of_eq (a := ((Value.ref a : Value), [Value.int i tk])) (by first | rfl | (simp only [slotArgs]; rfl)) ?_)
    refine wpAny_bind (wpAny_cRoomFor hu ?_)
    refine wpAny_bind (PySem.W.ifBound_K X I N.eq N.fn (wpAny_mono h (fun v s' hv => ?_) fun _ _ e => e))
    obtain ⟨r, rfl, q⟩ := hv
    refine wpAny_bind (wpAny_truthy_bool ?_)
    exact wpAny_pure ⟨r, rfl, q⟩
  have below : PySem.W.Looks (model prog w) s.heap (isInstance (.ref a) (.type "object")) true := I.type.andThen (PySem.W.looks_subIn X N.ob)
  have one : wpAny (model prog w) A (tryCompare (.ref a) "__ne__" (.int i tk)) (fun r s' => ∃ t, r = some (.bool (!t)) ∧ Q (.bool (!t)) s') Ex s := by
    unfold tryCompare
    simp only [callSpecialIfBound?, bindSpecialIfBound?]
    refine wpAny_bind (wpAny_holding (wpAny_bind (wpAny_bind (wpAny_bind (I.type.here ((PySem.W.looks_findIn X N.ne).here ?_))))))
    simp only [F.cmp_object.ne.bind]
    refine wpAny_bind (wpAny_askSetting (wpAny_ite ?_))
    have fin : wpAny (model prog w) A (call (.builtin "object.__ne__") ([.ref a] ++ [.int i tk]) >>= fun v => pure (some v)) (fun r s' => ∃ t, r = some (.bool (!t)) ∧ Q (.bool (!t)) s') Ex s := by
      refine wpAny_bind (wpAny_call (codeAny_call_builtin F.cmp_object.ne.plain F.cmpEntry_ne (PySem.W.check_slot F.cmpKind_ne F.cmpSplit_ne below (F.cmpArgs_ne _ _) (wpAny_mono body (fun fin s' hf => ?_) fun _ _ e => e))))
      obtain ⟨r, rfl, q⟩ := hf
      exact wpAny_pure ⟨r, rfl, q⟩
    have fin2 := wpAny_mono fin (Q' := fun a s' => wpAny (model prog w) A (match a with
        | some Value.notImplemented => pure none
        | none => pure none
        | some v => pure (some v)) (fun r s' => ∃ t, r = some (Value.bool !t) ∧ Q (Value.bool !t) s') Ex s') (fun r s' hr => by
      obtain ⟨t, rfl, q⟩ := hr
      exact wpAny_pure ⟨t, rfl, q⟩) fun _ _ e => e
    split
    · exact wpAny_pure (by exact fin2)
    · exact wpAny_tryCatch (wpAny_pure (by exact fin2))
  unfold richCompare
  simp only [oneThing_ref]
  refine wpAny_holding (wpAny_bind (wpAny_cRoomFor (by omega) ?_))
  refine wpAny_bind (I.type.here (wpAny_bind (wpAny_typeOf (typeIs_int s i tk) ?_)))
  split
  · refine wpAny_bind ((PySem.W.looks_subIn X hi).here ?_)
    simp only [Bool.false_eq_true, if_false]
    refine wpAny_bind (wpAny_mono one (fun r s' z => ?_) fun _ _ e => e)
    obtain ⟨t, rfl, hq⟩ := z
    exact wpAny_pure hq
  · refine wpAny_bind (wpAny_pure ?_)
    simp only [Bool.false_eq_true, if_false]
    refine wpAny_bind (wpAny_mono one (fun r s' z => ?_) fun _ _ e => e)
    obtain ⟨t, rfl, hq⟩ := z
    exact wpAny_pure hq
section
variable {X : Cx} {k : Nat} {C f : Addr} {fd : FuncData} {ps : List Str} {sp : Sp} {E : XK} {p : Addr × Obj}
theorem run_own1P {pins : List (Addr × Obj)} {s : Shared} {σ : L2.St} {H : Hp} {Q : VK} {us : List Value} {vs : List V} (F : FnP X.prog X.w X.K X.mg X.base k f fd ps sp) (hr : L2H.RoomH (k + 1) X.A) (hp : p ∈ X.pn) (hb : Binds X.K fd ps [])
    (I : Inv X pins σ H s) (r : Vals vs us) (h : sp vs H Q E) : wpAny (model X.prog X.w) X.A.in1 (call (.ref f) us) (EP X pins σ Q) X.xe s := by
  have hl : (us ++ []).length = ps.length := by
    rw [List.append_nil, ← F.len _ _ _ _ h]
    exact r.length.symm
  have P1 := I.pin p (List.mem_append_left _ hp)
  have hpin : L2H.PinOk X.stack H s p := ⟨P1.1, P1.2.1, fun hm => (List.mem_cons.mp (I.stkSub p.1 hm)).elim P1.2.2.1 P1.2.2.2.1, P1.2.2.2.2⟩
  have hr1 : L2H.RoomH k X.A.in1 := ⟨by have := hr.dp; show X.A.depth + 3 * k + 5 < _; omega, by have := hr.un; show X.A.units + 1 + 16 * k + 200 < _; omega⟩
  refine wpAny_call (codeAny_mono (F.run X.A.in1 X.stack s H ⟨us, []⟩ us vs _ E p hr1 hpin I.env0.in1 (by
    have := hb s us I.kIn hl
    rw [List.append_nil] at this
    exact this) r h) fun r s' hq => ?_)
  cases r with
  | error e => exact hq.elim
  | ok fl =>
    cases fl with
    | ret w => exact I.after hq
    | next => exact False.elim hq
    | brk => exact False.elim hq
    | cont => exact False.elim hq
/-- an instance in a list that holds it behind some ints that are not equal to it -/
def rInP (sp : Sp) (E : XK) (C : Addr) : R2 := fun x y H Q => ∃ a dx fs l, ∃ ys : List V, ∃ j : Nat, x = .ref a ∧ y = .ref l ∧ H a = some (.ins C dx fs) ∧ H l = some (.lst ys) ∧ ys[j]? = some (V.ref a) ∧ (∀ i, i < j → ∃ n : Int, ys[i]? = some (V.int n) ∧ sp [.ref a, .int n] H (fun v H' => v = .bl false ∧ H' = H) E) ∧ Q (.bl true) H
theorem in_ownP (O : OthC X.K C f) (Fk : FnP X.prog X.w X.K X.mg X.base k f fd ps sp) (hr : L2H.RoomH (k + 1) X.A) (hp : p ∈ X.pn) (hb : Binds X.K fd ps []) : OpR X (compareOp .In) (rInP sp E C) := by
  intro pins s σ H x y v u Q I rx ry h
  obtain ⟨a, dx, fs, l, ys, j, rfl, rfl, ea, el, hj, hz, q⟩ := h
  obtain rfl : v = Value.ref a := rx
  obtain rfl : u = Value.ref l := ry
  obtain ⟨z0, its0, n0, r0, e0⟩ := I.hok l _ el
  show wpAny (model X.prog X.w) X.A (do return .bool (← contains (.ref l) (.ref a))) (EP X pins σ Q) X.xe s
  have hT : s.TypeIs (.ref l) "list" := ⟨_, e0, rfl⟩
  have hjl := (List.getElem?_eq_some_iff.mp hj).1
  refine wpAny_bind (wpAny_contains_slot hT F.slot_list_contains (wpAny_mono (GQ.call_here (Q := fun v s' => v = .bool true ∧ Inv X pins σ H s') F.slot_list_contains hT F.entry_list_contains (F.args_list_contains_2 _ _)
    (list_containsT l (.ref a) j (fun s' => Inv X pins σ H s') (fun s' I' => ?_) (fun s' I' => ⟨rfl, I'⟩) I)) (fun v s' hv => ?_) fun _ _ e => e))
  · obtain ⟨z1, its, n, r, e⟩ := I'.hok l _ el
    refine ⟨its.toArray, n, e, by rw [List.size_toArray, ← r.length]; exact hjl, fun i hi hij => ?_⟩
    have k1 : i < ys.length := by rw [r.length]; simpa using hi
    obtain ⟨u, hu, ru⟩ := r.get (List.getElem?_eq_getElem k1)
    have g1 : its[i]? = some its.toArray[i] := by
      have h1' : i < its.length := by simpa using hi
      rw [List.getElem?_eq_getElem h1'] <;> simp
    rw [g1] at hu
    rw [Option.some.inj hu]
    by_cases hE : i = j
    · subst hE
      rw [List.getElem?_eq_getElem k1] at hj
      rw [Option.some.inj hj] at ru
      obtain rfl : u = Value.ref a := ru
      exact eqBool_same ⟨(decide_eq_true rfl).symm, I'⟩
    · obtain ⟨m, em, hsp⟩ := hz i (by omega)
      rw [List.getElem?_eq_getElem k1] at em
      rw [Option.some.inj em] at ru
      obtain ⟨mA, J, _⟩ := ins_get I'.hok ea
      obtain ⟨od, J, _⟩ := J.look
      obtain ⟨t, rfl⟩ := ru
      have own : wpAny (model X.prog X.w) X.A.in1 (call (.ref f) [.ref a, .int m t]) (fun v s' => ∃ r, v = .bool r ∧ ∃ t, Value.bool r = .bool t ∧ (t = decide (i = j) ∧ Inv X pins σ H s')) X.xe s' := by
        refine wpAny_mono (run_own1P (vs := [V.ref a, V.int m]) Fk hr hp hb I' (.cons rfl (.cons ⟨t, rfl⟩ .nil)) hsp) (fun v s2 hv => ?_) fun _ _ e => e
        obtain ⟨x, H2, I2, rv, ex, eH⟩ := hv
        subst ex
        subst eH
        obtain rfl : v = Value.bool false := rv
        exact ⟨false, rfl, false, rfl, (decide_eq_false hE).symm, I2⟩
      have hu1 : X.A.in1.units < cLine := by have := hr.un; show X.A.units + 1 < _; omega
      exact eqBool_any (fun z => nomatch z) (eq_right hu1 I'.kIn O.eq O.fn (typeIs_int s' m t) J O.i F.slot_int_eq (fun Q' q' => call_meets F.slot_int_eq (typeIs_int s' m t) F.entry_int_eq (F.args_int_eq_2 _ _) (dec_int_eq m t a C dx) ⟨J.at_, q'⟩) own)
  · obtain ⟨rfl, I'⟩ := hv
    exact wpAny_truthy_bool (wpAny_pure ⟨.bl true, H, I', rfl, q⟩)
/-- an instance != an int, in a suite -/
def rNeP (sp : Sp) (E : XK) (C : Addr) : R2 := fun x y H Q => ∃ a dx fs, ∃ n : Int, x = .ref a ∧ y = .int n ∧ H a = some (.ins C dx fs) ∧ sp [.ref a, .int n] H (fun v H' => ∃ b, v = .bl b ∧ Q (.bl (!b)) H') E
theorem ne_ownP (N : NoNe X.K C f) (hi : PySem.W.subIn X.K (.type "int") (.ref C) = some false) (Fk : FnP X.prog X.w X.K X.mg X.base k f fd ps sp) (hr : L2H.RoomH (k + 1) X.A) (hp : p ∈ X.pn) (hb : Binds X.K fd ps []) : OpR X (compareOp .NotEq) (rNeP sp E C) := by
  intro pins s σ H x y v u Q I rx ry h
  obtain ⟨a, dx, fs, n, rfl, rfl, ea, q⟩ := h
  obtain rfl : v = Value.ref a := rx
  obtain ⟨t, rfl⟩ := ry
  obtain ⟨mA, J, _⟩ := ins_get I.hok ea
  obtain ⟨od, J, _⟩ := J.look
  show wpAny (model X.prog X.w) X.A (richCompare .NotEq (.ref a) (.int n t)) (EP X pins σ Q) X.xe s
  refine ne_KI (by have := hr.un; omega) I.kIn N hi J (wpAny_mono (run_own1P (vs := [V.ref a, V.int n]) Fk hr hp hb I (.cons rfl (.cons ⟨t, rfl⟩ .nil)) q) (fun v s2 hv => ?_) fun _ _ e => e)
  obtain ⟨x, H2, I2, rv, b, ex, q2⟩ := hv
  subst ex
  obtain rfl : v = Value.bool b := rv
  exact ⟨b, rfl, .bl (!b), H2, I2, rfl, q2⟩
end
/-- all is written: no defaults are left -/
theorem binds_nil {K : PySem.W.Frag} {fd : FuncData} {ps : List Str} {e : List Value} (b : Binds K fd ps e) (v : Vals [] e) : Binds K fd ps [] := by
  cases v
  exact b
section
variable {X : Cx} {CX : CXT} {k : Nat} {C g : Addr} {fd : FuncData} {ps ks : List Str} {sp : Sp} {E : L2.St → XK} {fe e : Expr} {es : List Expr} {kws : List Keyword} {pos : Pos} {tf : TE} {t tk : TA}
/-- f(e, ..), f an instance of C, what is let out wished for at the caller's slots (also in a try body) -/
def tCallO2 (C : Addr) (sp : Sp) (E : L2.St → XK) (tf : TE) (t : TA) : TE := fun σ H Q => tf σ H fun y H1 => ∃ a, y = V.ref a ∧ t σ H1 fun vs H2 => (∃ dx fs, H2 a = some (.ins C dx fs)) ∧ sp (V.ref a :: vs) H2 Q (E σ)
theorem pe_callO2 (hf : PE X fe tf) (c : StX.CallO X.K C g) (F : FnOk X.prog X.w X.K X.mg X.base CX k g fd ps sp) (hr : Room k X.A) (hb : Binds X.K fd ps []) (hx : ∀ σ, PassesAt CX X σ (E σ)) (ha : PA X (e :: es) t)
    (ht : eval (.Call fe (e :: es) [] pos) X.env = (do callWith pos (← eval fe X.env) [] (backTo pos (starEach (e :: es) X.env)) (backToKw pos (keywordEach [] X.env))) := by rfl)
    (he : starEach (e :: es) X.env = (false, eval e X.env) :: starEach es X.env := by rfl) (hpl : (backTo pos (starEach es X.env)).any (·.1) = false := by rfl) : PE X (.Call fe (e :: es) [] pos) (tCallO2 C sp E tf t) := by
  refine ⟨fun pins s σ H Q I h => ?_⟩
  refine Call_ (thn (hf.run pins s σ H _ I h) fun u s1 ⟨y, H1, I1, ry, a, ey, q⟩ => ?_) ht
  subst ey
  obtain rfl : u = Value.ref a := ry
  refine StX.callO_with (thn (ha.run pos pins s1 σ H1 _ I1 q) fun us s2 ⟨vs, H2, I2, r, hi, q2⟩ => ?_) he hpl
  obtain ⟨ox, od, J, hd⟩ := StX.insC_at I2 (.inr hi)
  refine ⟨⟨C, ox, od, J, hd⟩, wpAny_call (PySem.W.kco_code I2.kIn J hd c.at_ c.fn c.fi ?_)⟩
  have r2 : Vals (V.ref a :: vs) (Value.ref a :: us) := .cons rfl r
  have hl : (Value.ref a :: us).length = ps.length := by rw [← r2.length]; exact F.len _ _ _ _ q2
  have b := hb s2 (Value.ref a :: us) I2.kIn (by rw [List.append_nil]; exact hl)
  rw [List.append_nil] at b
  refine codeAny_mono (F.run X.A X.stack s2 H2 ⟨Value.ref a :: us, []⟩ (Value.ref a :: us) (V.ref a :: vs) Q (E σ) hr I2.env0 b r2 q2) fun r s' hq => ?_
  cases r with
  | error er => exact hx σ _ H2 s2 er s' I2 hq
  | ok fl =>
    cases fl with
    | ret u => exact I2.after hq
    | next => exact False.elim hq
    | brk => exact False.elim hq
    | cont => exact False.elim hq
end
end My

/-! My own rules: == of two tuples of instances with an own ==, whatever it answers. -/
namespace My
open PySem PySem.Spec PyProof.Rows L2
section
open PySem PySem.SeqAt
open MeetsSeq MeetsSeq2 MeetsSeq3 SeqRoads2
variable {prog : Program} {w : World} {A : Around} {R : Result → Shared → Prop}
theorem tuple_eqB (l b : Addr) (items items2 : Array Value) (n n2 : Nat) (dd dd2 : Option Addr) (sl sl2 : Array (Option Value)) (t : Nat → Bool) (I : Nat → Shared → Prop)
    (turn : ∀ i (h1 : i < items.size) (h2 : i < items2.size) s, I i s → wpAny (model prog w) A.in1 (eqBool items[i] items2[i]) (fun r s' => r = t i ∧ I (i + 1) s') (fun e s' => R (.error e) s') s)
    (ans : Bool) (hans : ans = true ↔ items.size = items2.size ∧ ∀ i, i < items.size → i < items2.size → t i = true)
    (fin : ∀ i s, I i s → R (.ok (.ret (.bool ans))) s) {s : Shared} (hl1 : s.heap.get? l = some { cls := .type "tuple", dict := dd, data := .seq items n, slots := sl }) (hb1 : s.heap.get? b = some { cls := .type "tuple", dict := dd2, data := .seq items2 n2, slots := sl2 }) (h : I 0 s) :
    wpAny (model prog w) A.in1 (Builtin.«tuple.__eq__» ⟨[.ref l, .ref b], []⟩) (GQ.FinOf prog w A R) (fun e s' => R (.error e) s') s := by
  have f2 := AutoSeq1.sub_tuple_tuple
  have hZ : (items.toList.zip items2.toList).length = min items.size items2.size := by simp
  have h0 := h
  obtain ⟨hp, g, d, tk, os⟩ := s
  wp_walk using wpAny_loadPart' hl1, wpAny_loadPart' hb1, wpAny_forIn_list _ (fun rest b s' => b.1 = none ∧ ∃ i, rest = (items.toList.zip items2.toList).drop i ∧ i ≤ min items.size items2.size ∧ I i s' ∧ ∀ j, j < i → t j = true) _
  case turn =>
    rintro ⟨y, x⟩ rest b s' ⟨hb', i, hz, hi, hI, hall⟩
    have hlt : i < (items.toList.zip items2.toList).length := by
      rcases Nat.lt_or_ge i (items.toList.zip items2.toList).length with h' | h'
      · exact h'
      · rw [List.drop_of_length_le h'] at hz; cases hz
    have hlt' := hlt
    rw [hZ] at hlt'
    have h1 : i < items.size := by omega
    have h2 : i < items2.size := by omega
    rw [List.drop_eq_getElem_cons hlt] at hz
    injection hz with hyx hrest
    have hy : y = items[i] := by have := congrArg Prod.fst hyx; simpa using this
    have hx : x = items2[i] := by have := congrArg Prod.snd hyx; simpa using this
    subst hy hx
    refine wpAny_bind (wpAny_mono (turn i h1 h2 s' hI) (fun r s2 q2 => ?_) fun _ _ x => x)
    obtain ⟨hr, q2⟩ := q2
    cases ht : t i with
    | true =>
      rw [ht] at hr
      subst hr
      wp_walk
      exact ⟨rfl, i + 1, hrest, by omega, q2, fun j hj => by
        by_cases e : j = i
        · rw [e]; exact ht
        · exact hall j (by omega)⟩
    | false =>
      rw [ht] at hr
      subst hr
      have ha : ans = false := by
        cases ha : ans with
        | false => rfl
        | true =>
          have := (hans.mp ha).2 i h1 h2
          rw [ht] at this
          cases this
      have hR := fin _ _ q2
      rw [ha] at hR
      wp_walk
      exact hR
  case fin =>
    rintro ⟨b1, b2⟩ s' ⟨hb', i, hz, hi, hI, hall⟩
    simp only at hb'
    subst hb'
    have hge : min items.size items2.size ≤ i := by
      rcases Nat.lt_or_ge i (items.toList.zip items2.toList).length with h' | h'
      · rw [List.drop_eq_getElem_cons h'] at hz; cases hz
      · exact hZ ▸ h'
    have hR : R (.ok (.ret (.bool ans))) s' := fin _ _ hI
    have ha : ans = (items.size == items2.size) := by
      cases hq : ans with
      | true => exact (beq_iff_eq.mpr (hans.mp hq).1).symm
      | false =>
        refine Eq.symm ?_
        rw [Bool.eq_false_iff]
        intro e
        have e := beq_iff_eq.mp e
        have := hans.mpr ⟨e, fun j h1 h2 => hall j (by omega)⟩
        rw [hq] at this
        cases this
    rw [ha] at hR
    wp_walk
    simpa [Builtin.Tuple.tupleCompareSizes] using hR
  case h =>
    exact ⟨rfl, 0, rfl, Nat.zero_le _, h0, fun j hj => absurd hj (Nat.not_lt_zero _)⟩
end
section
variable {X : Cx} {CX : CXT} {k : Nat} {C f : Addr} {fd : FuncData} {ps : List Str} {sp : Sp} {E : XK}
/-- two tuples of instances; t tells which pairs are equal -/
def rTupB (K : PySem.W.Frag) (C : Addr) (sp : Sp) (E : XK) : R2 := fun x y H Q => ∃ a b, ∃ xs ys : List V, ∃ t : Nat → Bool, ∃ ans : Bool, x = .ref a ∧ y = .ref b ∧ SqT K H a xs ∧ SqT K H b ys ∧
  (∀ (i : Nat) u v, xs[i]? = some u → ys[i]? = some v → ∃ p q dx dy fs gs, u = .ref p ∧ v = .ref q ∧ H p = some (.ins C dx fs) ∧ H q = some (.ins C dy gs) ∧ (p = q → t i = true) ∧ sp [.ref p, .ref q] H (fun w H' => w = .bl (t i) ∧ H' = H) E) ∧
  (ans = true ↔ xs.length = ys.length ∧ ∀ i, i < xs.length → i < ys.length → t i = true) ∧ Q (.bl ans) H
theorem op_tupB (hs : PySem.W.findIn X.K (.ref C) "__eq__" = some (some (.ref f))) (hf : PySem.W.isFn X.K (.ref f) = true) (Fk : FnOk X.prog X.w X.K X.mg X.base CX k f fd ps sp) (hr : Room (k + 1) X.A) (hb : Binds X.K fd ps []) (hx : Passes CX X E) : OpR X (compareOp .Eq) (rTupB X.K C sp E) := by
  intro pins s σ H x y v u Q I rx ry h
  obtain ⟨a, b, xs, ys, t, ans, rfl, rfl, ha, hb', hi, hans, q⟩ := h
  cases rx
  cases ry
  obtain ⟨its, r, e, z⟩ := I.tuple ha
  obtain ⟨its2, r2, e2, z2⟩ := I.tuple hb'
  show wpAny (model X.prog X.w) X.A (richCompare .Eq (.ref a) (.ref b)) (EP X pins σ Q) X.xe s
  obtain ⟨⟨cls, dd, data, sl⟩, ho, hc, n, hd⟩ := id e
  obtain ⟨⟨cls2, dd2, data2, sl2⟩, ho2, hc2, n2, hd2⟩ := id e2
  simp only at hc hd hc2 hd2
  subst hc hd hc2 hd2
  have hu : X.A.units < cLine := hr.units0
  refine wpAny_richCompare_same_room (op := .Eq) ⟨_, ho, rfl⟩ ⟨_, ho2, rfl⟩ F.slot_tuple_eq (GQ.call_here F.slot_tuple_eq ⟨_, ho, rfl⟩ F.entry_tuple_eq (F.args_tuple_eq_2 _ _) ?_) hu
  refine tuple_eqB (R := wants (fun v s' => v ≠ .notImplemented ∧ EP X pins σ Q v s') X.xe) a b its.toArray its2.toArray n n2 dd dd2 sl sl2 t (fun _ s' => Inv X pins σ H s') (fun i h1 h2 s' I' => ?_) ans (by rw [hans, List.size_toArray, List.size_toArray, r.length, r2.length]) (fun i s' I' => ⟨(fun x => nomatch x), .bl ans, H, I', rfl, q⟩) ho ho2 I
  have k1 : i < xs.length := by rw [r.length]; simpa using h1
  have k2 : i < ys.length := by rw [r2.length]; simpa using h2
  obtain ⟨u, hu1, ru⟩ := r.get (List.getElem?_eq_getElem k1)
  obtain ⟨v, hv1, rv⟩ := r2.get (List.getElem?_eq_getElem k2)
  have g1 : its[i]? = some its.toArray[i] := by
    have h1' : i < its.length := by simpa using h1
    rw [List.getElem?_eq_getElem h1'] <;> simp
  have g2 : its2[i]? = some its2.toArray[i] := by
    have h2' : i < its2.length := by simpa using h2
    rw [List.getElem?_eq_getElem h2'] <;> simp
  rw [g1] at hu1
  rw [g2] at hv1
  rw [Option.some.inj hu1, Option.some.inj hv1]
  obtain ⟨p', q', dx, dy, fs, gs, eu, evv, hp, hq, hsame, hsp⟩ := hi i _ _ (List.getElem?_eq_getElem k1) (List.getElem?_eq_getElem k2)
  rw [eu] at ru
  rw [evv] at rv
  obtain rfl : u = Value.ref p' := ru
  obtain rfl : v = Value.ref q' := rv
  by_cases hab : p' = q'
  · subst hab
    exact eqBool_same ⟨(hsame rfl).symm, I'⟩
  · obtain ⟨mA, J, _⟩ := ins_get I'.hok hp
    obtain ⟨mB, J', _⟩ := ins_get I'.hok hq
    obtain ⟨od, J, _⟩ := J.look
    obtain ⟨od', J', _⟩ := J'.look
    obtain ⟨m, hF⟩ := I'.fr
    refine GQ.eqBool_refG hab (PySem.W.cmp_K (op := .Eq) (tb := .ref C) hr.in1.units0 hF I'.ok.mod.kin J J'.type (by simp [PySem.W.notFirst]) hs hf (wpAny_mono (run_own1 (vs := [V.ref p', V.ref q']) Fk hr hb hx I' (.cons rfl (.cons rfl .nil)) hsp) (fun v s2 hv => ?_) fun _ _ e => e))
    obtain ⟨x, H2, I2, rv, ex, eH⟩ := hv
    subst ex
    subst eH
    obtain rfl : v = Value.bool (t i) := rv
    exact ⟨t i, rfl, rfl, I2⟩
end
end My

/-! My own rules: != of two tuples that are equal item by item. -/
namespace My
open PySem PySem.Spec PyProof.Rows L2
section
open PySem PySem.SeqAt
open MeetsSeq MeetsSeq2 MeetsSeq3 SeqRoads2
variable {prog : Program} {w : World} {A : Around} {R : Result → Shared → Prop}
theorem tuple_neG (l b : Addr) (items items2 : Array Value) (n n2 : Nat) (dd dd2 : Option Addr) (sl sl2 : Array (Option Value)) (hsz : items.size = items2.size) (I : Shared → Prop)
    (turn : ∀ i (h1 : i < items.size) (h2 : i < items2.size) s, I s → wpAny (model prog w) A.in1 (eqBool items[i] items2[i]) (fun r s' => r = true ∧ I s') (fun e s' => R (.error e) s') s)
    (fin : ∀ s, I s → R (.ok (.ret (.bool false))) s) {s : Shared} (hl1 : s.heap.get? l = some { cls := .type "tuple", dict := dd, data := .seq items n, slots := sl }) (hb1 : s.heap.get? b = some { cls := .type "tuple", dict := dd2, data := .seq items2 n2, slots := sl2 }) (h : I s) :
    wpAny (model prog w) A.in1 (Builtin.«tuple.__ne__» ⟨[.ref l, .ref b], []⟩) (GQ.FinOf prog w A R) (fun e s' => R (.error e) s') s := by
  have f2 := AutoSeq1.sub_tuple_tuple
  have hZ : (items.toList.zip items2.toList).length = items.size := by simp [hsz]
  have h0 := h
  obtain ⟨hp, g, d, tk, os⟩ := s
  wp_walk using wpAny_loadPart' hl1, wpAny_loadPart' hb1, wpAny_forIn_list _ (fun rest b s' => b.1 = none ∧ ∃ i, rest = (items.toList.zip items2.toList).drop i ∧ i ≤ items.size ∧ I s') _
  case turn =>
    rintro ⟨y, x⟩ rest b s' ⟨hb', i, hz, hi, hI⟩
    have hlt : i < (items.toList.zip items2.toList).length := by
      rcases Nat.lt_or_ge i (items.toList.zip items2.toList).length with h' | h'
      · exact h'
      · rw [List.drop_of_length_le h'] at hz; cases hz
    have h1 : i < items.size := hZ ▸ hlt
    have h2 : i < items2.size := hsz ▸ h1
    rw [List.drop_eq_getElem_cons hlt] at hz
    injection hz with hyx hrest
    have hy : y = items[i] := by have := congrArg Prod.fst hyx; simpa using this
    have hx : x = items2[i] := by have := congrArg Prod.snd hyx; simpa using this
    subst hy hx
    refine wpAny_bind (wpAny_mono (turn i h1 h2 s' hI) (fun r s2 q2 => ?_) fun _ _ x => x)
    obtain ⟨hr, q2⟩ := q2
    subst hr
    wp_walk
    exact ⟨rfl, i + 1, hrest, h1, q2⟩
  case fin =>
    rintro ⟨b1, b2⟩ s' ⟨hb', i, hz, hi, hI⟩
    simp only at hb'
    subst hb'
    have hR : R (.ok (.ret (.bool false))) s' := fin s' hI
    wp_walk
    simpa [Builtin.Tuple.tupleCompareSizes, hsz] using hR
  case h =>
    exact ⟨rfl, 0, rfl, Nat.zero_le _, h0⟩
end
section
variable {X : Cx} {n : Nat} {D : Eqv}
/-- != of two tuples that are equal item by item -/
def rNeG (K : PySem.W.Frag) (D : Eqv) : R2 := fun x y H Q => DTup K D x y H ∧ ∀ H', Ext H H' → Q (.bl false) H'
theorem op_neG (hD : Mon D) (h : EqG X n D) (hr : Room (n + 1) X.A) : OpR X (compareOp .NotEq) (rNeG X.K D) := by
  intro pins s σ H x y v u Q I rx ry hq
  obtain ⟨⟨a, b, xs, ys, rfl, rfl, ha, hb, p⟩, q⟩ := hq
  cases rx
  cases ry
  show wpAny (model X.prog X.w) X.A (richCompare .NotEq (.ref a) (.ref b)) (EP X pins σ Q) X.xe s
  obtain ⟨its, r, e, z⟩ := I.tuple ha
  obtain ⟨its2, r2, e2, z2⟩ := I.tuple hb
  have hsz : its.toArray.size = its2.toArray.size := by rw [List.size_toArray, List.size_toArray, ← r.length, ← r2.length]; exact p.1
  obtain ⟨⟨cls, dd, data, sl⟩, ho, hc, n1, hd⟩ := id e
  obtain ⟨⟨cls2, dd2, data2, sl2⟩, ho2, hc2, n2, hd2⟩ := id e2
  simp only at hc hd hc2 hd2
  subst hc hd hc2 hd2
  refine wpAny_richCompare_same_room (op := .NotEq) ⟨_, ho, rfl⟩ ⟨_, ho2, rfl⟩ F.slot_tuple_ne (GQ.call_here F.slot_tuple_ne ⟨_, ho, rfl⟩ F.entry_tuple_ne (F.args_tuple_ne_2 _ _) ?_) hr.units0
  exact tuple_neG (R := wants (fun v s' => v ≠ .notImplemented ∧ EP X pins σ Q v s') X.xe) a b its.toArray its2.toArray n1 n2 dd dd2 sl sl2 hsz (fun s' => LoopI X pins σ H s') (fun i h1 h2 s' l => turnG hD h ⟨hr, rfl⟩ p r r2 i h1 h2 s' l) (fun s' ⟨H', I', e⟩ => ⟨(fun x => nomatch x), .bl false, H', I', rfl, q H' e⟩) ho ho2 ⟨H, I, Ext.rfl'⟩
end
end My

/-! My own rules: tuple(zip(a, b)) of two tuples. -/
namespace My
open PySem PySem.Spec PyProof.Rows L2 RZ
section
open PySem PySem.W
variable {prog : Program} {w : World} {A : Around} {E : Value → Shared → Prop} {s : Shared}
theorem zipT_item_held {z TI TO T i1 i2 l1 l2 : Addr} {f : Bool} {oT : Obj} {k1 k2 : Nat} {xs ys : Array Value} {x y : Value} {Q : Value → Shared → Prop} (D : ZipApart z TI TO i1 i2 l1 l2)
    (hz : IsZipHeld s.heap z TI TO T f) (hT : s.heap.get? T = some oT) (hTI : IsPair s.heap TI (.ref i1) (.ref i2))
    (h1 : s.heap.IsTupleIter i1 l1 k1) (h2 : s.heap.IsTupleIter i2 l2 k2) (hl1 : s.heap.IsTuple l1 xs) (hl2 : s.heap.IsTuple l2 ys) (hx : xs[k1]? = some x) (hy : ys[k2]? = some y)
    (hQ : ∀ h', IsZipHeld h' z TI TO T true → h'.IsTupleIter i1 l1 (k1 + 1) → h'.IsTupleIter i2 l2 (k2 + 1) → IsPair h' s.heap.objs.size x y → h'.objs.size = s.heap.objs.size + 1 →
      (∀ c o, c ≠ z → c ≠ i1 → c ≠ i2 → s.heap.get? c = some o → h'.get? c = some o) → Q (.ref s.heap.objs.size) { s with heap := h' }) :
    wpAny (model prog w) A (Builtin.«zip.__next__» ⟨[.ref z], []⟩) (fun fin s' => ∃ v, fin = .done (.ret v) ∧ Q v s') E s := by
  show wpAny _ _ (field (.ref z) 2 >>= _) _ _ _
  refine wpAny_bind (wpAny_field hz rfl (x := .bool false) rfl ?_)
  show wpAny _ _ (field (.ref z) 3 >>= _) _ _ _
  refine wpAny_bind (wpAny_field hz rfl (x := .ref TI) rfl ?_)
  refine wpAny_bind (wpAny_seqItems hTI rfl ?_)
  show wpAny _ _ (Builtin.SmallTypes.ownedTupleIsFree (.ref z) >>= _) _ _ _
  refine wpAny_bind (wpAny_tupleHeld_zip hz hT fun h₁ hz₁ hs₁ => ?_)
  simp only [Bool.false_eq_true, if_false]
  refine wpAny_bind ?_
  rw [← Array.forIn_toList]
  simp only [List.forIn_cons, List.forIn_nil]
  refine wpAny_bind (wpAny_bind (wpAny_holding ?_))
  show wpAny _ _ (Builtin.SmallTypes.nextOf (.ref i1) >>= _) _ _ _
  refine wpAny_bind (nextOf_tuple_item (s := { s with heap := h₁ }) (h1.extBut hs₁.extBut D.i1z) (hl1.extBut hs₁.extBut D.l1z) hx fun h₂ h1₂ hs₂ => wpAny_pure ?_)
  refine wpAny_pure ?_
  refine wpAny_bind (wpAny_bind (wpAny_holding ?_))
  show wpAny _ _ (Builtin.SmallTypes.nextOf (.ref i2) >>= _) _ _ _
  refine wpAny_bind (nextOf_tuple_item (s := { s with heap := h₂ }) ((h2.extBut hs₁.extBut D.i2z).extBut hs₂.extBut D.i12.symm) ((hl2.extBut hs₁.extBut D.l2z).extBut hs₂.extBut D.l2i1) hy fun h₃ h2₃ hs₃ => wpAny_pure ?_)
  refine wpAny_pure (wpAny_pure ?_)
  show wpAny _ _ (newTuple [x, y] >>= _) _ _ _
  refine wpAny_bind (wpAny_newTuple ?_)
  have hsz : h₃.objs.size = s.heap.objs.size := by rw [hs₃.1, hs₂.1, hs₁.1]
  have hz₃ : IsZipHeld h₃ z TI TO T true := hs₃.extBut _ _ D.i2z.symm (hs₂.extBut _ _ D.i1z.symm hz₁)
  have hk : ∀ c o, c ≠ z → c ≠ i1 → c ≠ i2 → s.heap.get? c = some o → h₃.get? c = some o := fun c o c1 c2 c3 e => hs₃.extBut _ _ c3 (hs₂.extBut _ _ c2 (hs₁.extBut _ _ c1 e))
  have h1₃ : h₃.IsTupleIter i1 l1 (k1 + 1) := h1₂.extBut hs₃.extBut D.i12
  refine wpAny_pure ⟨_, rfl, ?_⟩
  show Q (.ref h₃.objs.size) _
  have hp : IsPair (h₃.push { cls := .type "tuple", data := .seq #[x, y] }) h₃.objs.size x y := Heap.get?_push_size _ rfl
  have hz4 : (h₃.push { cls := .type "tuple", data := .seq #[x, y] }).objs.size = h₃.objs.size + 1 := Heap.size_push ..
  rw [hsz] at hp hz4 ⊢
  exact hQ _ (Heap.get?_push_of_some _ hz₃) (h1₃.at fun o e => Heap.get?_push_of_some _ e) (h2₃.at fun o e => Heap.get?_push_of_some _ e) hp hz4 fun c o c1 c2 c3 e => Heap.get?_push_of_some _ (hk c o c1 c2 c3 e)
theorem zipT_end_held {z TI TO T i1 i2 l1 l2 : Addr} {f : Bool} {oT : Obj} {k1 k2 : Nat} {xs ys : Array Value} {Q : Fin → Shared → Prop} (hh : A.handled = none) (D : ZipApart z TI TO i1 i2 l1 l2)
    (hz : IsZipHeld s.heap z TI TO T f) (hT : s.heap.get? T = some oT) (hTI : IsPair s.heap TI (.ref i1) (.ref i2))
    (h1 : s.heap.IsTupleIter i1 l1 k1) (h2 : s.heap.IsTupleIter i2 l2 k2) (hl1 : s.heap.IsTuple l1 xs) (hl2 : s.heap.IsTuple l2 ys) (hend : xs[k1]? = none ∨ ys[k2]? = none)
    (hE : ∀ h' e, (∀ c o, c ≠ z → c ≠ i1 → c ≠ i2 → s.heap.get? c = some o → h'.get? c = some o) → (∃ o, h'.get? e = some o ∧ o.cls = .type "StopIteration") → E (.ref e) { s with heap := h' }) :
    wpAny (model prog w) A (Builtin.«zip.__next__» ⟨[.ref z], []⟩) Q E s := by
  show wpAny _ _ (field (.ref z) 2 >>= _) _ _ _
  refine wpAny_bind (wpAny_field hz rfl (x := .bool false) rfl ?_)
  show wpAny _ _ (field (.ref z) 3 >>= _) _ _ _
  refine wpAny_bind (wpAny_field hz rfl (x := .ref TI) rfl ?_)
  refine wpAny_bind (wpAny_seqItems hTI rfl ?_)
  show wpAny _ _ (Builtin.SmallTypes.ownedTupleIsFree (.ref z) >>= _) _ _ _
  refine wpAny_bind (wpAny_tupleHeld_zip hz hT fun h₁ hz₁ hs₁ => ?_)
  simp only [Bool.false_eq_true, if_false]
  refine wpAny_bind ?_
  rw [← Array.forIn_toList]
  simp only [List.forIn_cons, List.forIn_nil]
  refine wpAny_bind (wpAny_bind (wpAny_holding ?_))
  show wpAny _ _ (Builtin.SmallTypes.nextOf (.ref i1) >>= _) _ _ _
  cases hx : xs[k1]? with
  | none =>
    refine wpAny_bind (nextOf_tuple_end (s := { s with heap := h₁ }) hh (h1.extBut hs₁.extBut D.i1z) (hl1.extBut hs₁.extBut D.l1z) hx fun h₂ e hs₂ he => ?_)
    exact hE h₂ e (fun c o c1 c2 _ x => hs₂ _ _ c2 (hs₁.extBut _ _ c1 x)) he
  | some x =>
    have hy : ys[k2]? = none := by rcases hend with h | h; rw [hx] at h; cases h; exact h
    refine wpAny_bind (nextOf_tuple_item (s := { s with heap := h₁ }) (h1.extBut hs₁.extBut D.i1z) (hl1.extBut hs₁.extBut D.l1z) hx fun h₂ h1₂ hs₂ => wpAny_pure ?_)
    refine wpAny_pure ?_
    refine wpAny_bind (wpAny_bind (wpAny_holding ?_))
    show wpAny _ _ (Builtin.SmallTypes.nextOf (.ref i2) >>= _) _ _ _
    refine wpAny_bind (nextOf_tuple_end (s := { s with heap := h₂ }) hh ((h2.extBut hs₁.extBut D.i2z).extBut hs₂.extBut D.i12.symm) ((hl2.extBut hs₁.extBut D.l2z).extBut hs₂.extBut D.l2i1) hy fun h₃ e hs₃ he => ?_)
    exact hE h₃ e (fun c o c1 c2 c3 x => hs₃ _ _ c3 (hs₂.extBut _ _ c2 (hs₁.extBut _ _ c1 x))) he
theorem pyNext_zipT_item_held {z TI TO T i1 i2 l1 l2 : Addr} {f : Bool} {oT : Obj} {k1 k2 : Nat} {xs ys : Array Value} {x y : Value} {Q : Option Value → Shared → Prop} (D : ZipApart z TI TO i1 i2 l1 l2)
    (hz : IsZipHeld s.heap z TI TO T f) (hT : s.heap.get? T = some oT) (hTI : IsPair s.heap TI (.ref i1) (.ref i2))
    (h1 : s.heap.IsTupleIter i1 l1 k1) (h2 : s.heap.IsTupleIter i2 l2 k2) (hl1 : s.heap.IsTuple l1 xs) (hl2 : s.heap.IsTuple l2 ys) (hx : xs[k1]? = some x) (hy : ys[k2]? = some y)
    (hQ : ∀ h', IsZipHeld h' z TI TO T true → h'.IsTupleIter i1 l1 (k1 + 1) → h'.IsTupleIter i2 l2 (k2 + 1) → IsPair h' s.heap.objs.size x y → h'.objs.size = s.heap.objs.size + 1 →
      (∀ c o, c ≠ z → c ≠ i1 → c ≠ i2 → s.heap.get? c = some o → h'.get? c = some o) → Q (some (.ref s.heap.objs.size)) { s with heap := h' }) :
    wpAny (model prog w) A (pyNext (.ref z)) Q E s := by
  have hTy : s.TypeIs (.ref z) "zip" := ⟨_, hz, rfl⟩
  unfold pyNext
  exact wpAny_bind (wpAny_attempt (wpAny_callSpecial?_slot (name := Str.ofString "__next__") hTy F.slot_zip_next
    (wpAny_call_entry F.slot_zip_next hTy F.entry_zip_next
      (zipT_item_held D hz hT hTI h1 h2 hl1 hl2 hx hy fun h' a1 a3 a4 a5 a6 a7 => wpAny_pure (hQ h' a1 a3 a4 a5 a6 a7)) (F.args_zip_next_1 _))))
theorem pyNext_zipT_end_held {z TI TO T i1 i2 l1 l2 : Addr} {f : Bool} {oT : Obj} {k1 k2 : Nat} {xs ys : Array Value} {Q : Option Value → Shared → Prop} (hh : A.handled = none) (D : ZipApart z TI TO i1 i2 l1 l2)
    (hz : IsZipHeld s.heap z TI TO T f) (hT : s.heap.get? T = some oT) (hTI : IsPair s.heap TI (.ref i1) (.ref i2))
    (h1 : s.heap.IsTupleIter i1 l1 k1) (h2 : s.heap.IsTupleIter i2 l2 k2) (hl1 : s.heap.IsTuple l1 xs) (hl2 : s.heap.IsTuple l2 ys) (hend : xs[k1]? = none ∨ ys[k2]? = none)
    (hQ : ∀ h', (∀ c o, c ≠ z → c ≠ i1 → c ≠ i2 → s.heap.get? c = some o → h'.get? c = some o) → Q none { s with heap := h' }) : wpAny (model prog w) A (pyNext (.ref z)) Q E s := by
  have hTy : s.TypeIs (.ref z) "zip" := ⟨_, hz, rfl⟩
  unfold pyNext
  refine wpAny_bind (wpAny_attempt (wpAny_callSpecial?_slot (name := Str.ofString "__next__") hTy F.slot_zip_next
    (wpAny_call_entry F.slot_zip_next hTy F.entry_zip_next (zipT_end_held hh D hz hT hTI h1 h2 hl1 hl2 hend fun h' e hk he => ?_) (F.args_zip_next_1 _))))
  obtain ⟨o, ho, hc⟩ := he
  refine wpAny_bind (wpAny_isInstance (T := "StopIteration") (b := true) ⟨o, ho, hc⟩ isSubtype_stop ?_)
  exact wpAny_pure (hQ _ hk)
end
/-- the zip at turn i; the list that takes its tuples is at d -/
def ZSt (h : Heap) (z TI TO i1 i2 a b d : Addr) (i : Nat) : Prop := IsPair h TI (.ref i1) (.ref i2) ∧ h.IsTupleIter i1 a i ∧ h.IsTupleIter i2 b i ∧
  ((IsZip h z TI TO .none ∧ ∃ x y, IsPair h TO x y) ∨ ∃ T f oT, IsZipHeld h z TI TO T f ∧ h.get? T = some oT ∧ T ≠ z ∧ T ≠ i1 ∧ T ≠ i2 ∧ T ≠ d)
section
open PySem PySem.W
variable {prog : Program} {w : World} {A : Around} {E : Value → Shared → Prop} {s : Shared}
theorem zst_item {z TI TO i1 i2 a b d : Addr} {i : Nat} {xs ys : Array Value} {u v : Value} {Q : Option Value → Shared → Prop} (D : ZipApart z TI TO i1 i2 a b) (st : ZSt s.heap z TI TO i1 i2 a b d i) (p : s.heap.IsTuple a xs) (p2 : s.heap.IsTuple b ys) (hx : xs[i]? = some u) (hy : ys[i]? = some v) (hd : d < s.heap.objs.size)
    (hQ : ∀ h', ZSt h' z TI TO i1 i2 a b d (i + 1) → IsPair h' s.heap.objs.size u v → h'.objs.size = s.heap.objs.size + 1 → (∀ c o, c ≠ z → c ≠ TO → c ≠ i1 → c ≠ i2 → s.heap.get? c = some o → h'.get? c = some o) → Q (some (.ref s.heap.objs.size)) { s with heap := h' }) :
    wpAny (model prog w) A (pyNext (.ref z)) Q E s := by
  obtain ⟨hTI, h1, h2, hz⟩ := st
  have lt : ∀ {c o}, s.heap.get? c = some o → s.heap.objs.size ≠ c := fun e => Nat.ne_of_gt (Heap.lt_size e)
  have n1 : s.heap.objs.size ≠ i1 := let ⟨_, e, _⟩ := h1; lt e
  have n2 : s.heap.objs.size ≠ i2 := let ⟨_, e, _⟩ := h2; lt e
  rcases hz with ⟨hz, x, y, hTO⟩ | ⟨T, f, oT, hz, hT, r1, r2, r3, r4⟩
  · refine pyNext_zipT_item D hz hTI hTO h1 h2 p p2 hx hy fun h' a1 a2 a3 a4 a5 a6 hk => ?_
    exact hQ h' ⟨hk _ _ D.TIz D.TITO D.TIi1 D.TIi2 hTI, a3, a4, .inr ⟨s.heap.objs.size, false, _, a1, a5, lt hz, n1, n2, Nat.ne_of_gt hd⟩⟩ a5 a6 hk
  · refine pyNext_zipT_item_held D hz hT hTI h1 h2 p p2 hx hy fun h' a1 a3 a4 a5 a6 hk => ?_
    exact hQ h' ⟨hk _ _ D.TIz D.TIi1 D.TIi2 hTI, a3, a4, .inr ⟨T, true, oT, a1, hk _ _ r1 r2 r3 hT, r1, r2, r3, r4⟩⟩ a5 a6 fun c o c1 _ c3 c4 e => hk c o c1 c3 c4 e
theorem zst_done {z TI TO i1 i2 a b d : Addr} {i : Nat} {xs ys : Array Value} {Q : Option Value → Shared → Prop} (hh : A.handled = none) (D : ZipApart z TI TO i1 i2 a b) (st : ZSt s.heap z TI TO i1 i2 a b d i) (p : s.heap.IsTuple a xs) (p2 : s.heap.IsTuple b ys) (he : xs[i]? = none ∨ ys[i]? = none)
    (hQ : ∀ h', (∀ c o, c ≠ z → c ≠ TO → c ≠ i1 → c ≠ i2 → s.heap.get? c = some o → h'.get? c = some o) → Q none { s with heap := h' }) :
    wpAny (model prog w) A (pyNext (.ref z)) Q E s := by
  obtain ⟨hTI, h1, h2, hz⟩ := st
  rcases hz with ⟨hz, x, y, hTO⟩ | ⟨T, f, oT, hz, hT, r1, r2, r3, r4⟩
  · exact pyNext_zipT_end hh D hz hTI hTO h1 h2 p p2 he fun h' hk => hQ h' hk
  · exact pyNext_zipT_end_held hh D hz hT hTI h1 h2 p p2 he fun h' hk => hQ h' fun c o c1 _ c3 c4 e => hk c o c1 c3 c4 e
theorem ZSt.on {h h' : Heap} {z TI TO i1 i2 a b d : Addr} {i : Nat} (st : ZSt h z TI TO i1 i2 a b d i) (D : ZipApart z TI TO i1 i2 a b) (hd : d ≠ z ∧ d ≠ TI ∧ d ≠ TO ∧ d ≠ i1 ∧ d ≠ i2) (k : ∀ c o, c ≠ d → h.get? c = some o → h'.get? c = some o) : ZSt h' z TI TO i1 i2 a b d i := by
  obtain ⟨hTI, h1, h2, hz⟩ := st
  obtain ⟨d1, d2, d3, d4, d5⟩ := hd
  refine ⟨k _ _ (Ne.symm d2) hTI, h1.at fun o e => k _ o (Ne.symm d4) e, h2.at fun o e => k _ o (Ne.symm d5) e, ?_⟩
  rcases hz with ⟨hz, x, y, hTO⟩ | ⟨T, f, oT, hz, hT, r1, r2, r3, r4⟩
  · exact .inl ⟨k _ _ (Ne.symm d1) hz, x, y, k _ _ (Ne.symm d3) hTO⟩
  · exact .inr ⟨T, f, oT, k _ _ (Ne.symm d1) hz, k _ _ r4 hT, r1, r2, r3, r4⟩
end
/-- the pairs that stand so far -/
def Zs (H : Hp) (xs ys : List V) (ts : List Addr) : Prop := ∀ (j : Nat) t x y, ts[j]? = some t → xs[j]? = some x → ys[j]? = some y → H t = some (.tup [x, y])
theorem Zs.on {H H' : Hp} {xs ys : List V} {ts : List Addr} (r : Zs H xs ys ts) (s : Same H H') : Zs H' xs ys ts := fun j t x y h1 h2 h3 => s _ _ (r j t x y h1 h2 h3)
theorem sqT_on {K : PySem.W.Frag} {H H' : Hp} {a : Addr} {xs : List V} (e : Same H H') (h : SqT K H a xs) : SqT K H' a xs := by
  rcases h with (h | ⟨o, h⟩) | h
  · exact .inl (.inl (e _ _ h))
  · exact .inl (.inr ⟨o, e _ _ h⟩)
  · exact .inr h
theorem nolen_zip : typeLookup (.type "zip") "__len__" = pure none := by rw [typeLookup_type, builtinLookup_eq_fast]; kernel_rfl
theorem hint_zip : typeLookup (.type "zip") "__length_hint__" = pure none := by rw [typeLookup_type, builtinLookup_eq_fast]; kernel_rfl
section
variable {X : Cx} {pins : List (Addr × Obj)} {σ : L2.St}
theorem ext_zip {A : Around} {R : Result → Shared → Prop} {S z TI TO i1 i2 a b : Addr} {res : Value} (hh : A.in1.handled = none) (D : ZipApart z TI TO i1 i2 a b) (hS : S ≠ z ∧ S ≠ TI ∧ S ≠ TO ∧ S ≠ i1 ∧ S ≠ i2) {xs ys : List V} (hl : xs.length = ys.length) (hn : xs.length ≤ sizeLine) :
    ∀ (k i : Nat) (s : Shared) (H : Hp) (acc : Array Value) (c : Nat) (ts : List Addr), xs.length - i = k → i ≤ xs.length → Inv X pins σ H s → SqT X.K H a xs → SqT X.K H b ys → ZSt s.heap z TI TO i1 i2 a b S i →
      (∀ c ∈ [S, z, TO, i1, i2], FpOk X pins H c ∧ c < s.heap.objs.size) → s.heap.get? S = some { cls := .type "list", dict := none, data := .seq acc c, slots := #[] } → acc.toList = ts.map Value.ref → ts.length = i → Zs H xs ys ts →
      (∀ (s' : Shared) (H' : Hp) (acc' : Array Value) (c' : Nat) (ts' : List Addr), Inv X pins σ H' s' → Same H H' → s'.heap.get? S = some { cls := .type "list", dict := none, data := .seq acc' c', slots := #[] } → acc'.toList = ts'.map Value.ref → ts'.length = xs.length → Zs H' xs ys ts' → R (.ok (.ret res)) s') →
      codeAny (model X.prog X.w) A (.builtin "list.extend.loop" ⟨[.ref S, .ref z, res], []⟩) R s := by
  intro k
  induction k with
  | zero =>
    intro i s H acc c ts hk hi I qa qb st hf hL ha ht hz hR
    have hin : i = xs.length := by omega
    subst hin
    refine codeAny_builtin F.entry_extend_loop ?_
    rw [Around.under_plainId F.plain_extend_loop _]
    show wpAny _ A.in1 (pyNext (.ref z) >>= _) _ _ s
    obtain ⟨its, rv, p, _⟩ := I.tuple qa
    obtain ⟨its2, rv2, p2, _⟩ := I.tuple qb
    have l1 := rv.length
    refine wpAny_bind (zst_done hh D st p p2 (.inl (by simp; omega)) fun h' hk' => wpAny_pure ?_)
    exact hR { s with heap := h' } H acc c ts (I.turnedL (t' := s.toks) (ch := [z, TO, i1, i2]) (fun c o hb q => hk' c o (fun e => hb (by simp [e])) (fun e => hb (by simp [e])) (fun e => hb (by simp [e])) (fun e => hb (by simp [e])) q)
        (fun c hc => (hf c (List.mem_cons_of_mem _ hc)).1)) (fun _ _ e => e) (hk' S _ hS.1 hS.2.2.1 hS.2.2.2.1 hS.2.2.2.2 hL) ha ht hz
  | succ k ih =>
    intro i s H acc c ts hk hi I qa qb st hf hL ha ht hz hR
    have hlt : i < xs.length := by omega
    refine codeAny_builtin F.entry_extend_loop ?_
    rw [Around.under_plainId F.plain_extend_loop _]
    show wpAny _ A.in1 (pyNext (.ref z) >>= _) _ _ s
    obtain ⟨its, rv, p, _⟩ := I.tuple qa
    obtain ⟨its2, rv2, p2, _⟩ := I.tuple qb
    have hx : xs[i]? = some xs[i] := List.getElem?_eq_getElem hlt
    have hy : ys[i]? = some (ys[i]'(by omega)) := List.getElem?_eq_getElem (by omega)
    obtain ⟨u, hu, ru⟩ := rv.get hx
    obtain ⟨u2, hu2, ru2⟩ := rv2.get hy
    have fl : ∀ c ∈ [S, z, TO, i1, i2], c ≠ s.heap.objs.size := fun c hc => Nat.ne_of_lt (hf c hc).2
    have hsz0 : acc.size = i := by rw [← Array.length_toList, ha, List.length_map, ht]
    refine wpAny_bind (zst_item D st p p2 (u := u) (v := u2) (by simpa using hu) (by simpa using hu2) (hf S List.mem_cons_self).2 fun h' st' hT hsz hk' => ?_)
    have hL' := hk' S _ hS.1 hS.2.2.1 hS.2.2.2.1 hS.2.2.2.2 hL
    show wpAny _ A.in1 (updateSeq S (·.push (.ref s.heap.objs.size)) >>= _) _ _ _
    refine wpAny_bind ?_
    have new : ObjOk X.prog X.w (upd H s.heap.objs.size (.tup [xs[i], ys[i]'(by omega)])) h' s.heap.objs.size (.tup [xs[i], ys[i]'(by omega)]) :=
      ⟨by show 2 ≤ sizeLine; decide, [u, u2], .cons ru (.cons ru2 .nil), ⟨_, hT, rfl, _, rfl⟩⟩
    have I1 : Inv X pins σ (upd H s.heap.objs.size (.tup [xs[i], ys[i]'(by omega)])) { s with heap := h' } :=
      I.turnedNew (t' := s.toks) (ch := [z, TO, i1, i2]) (fun c o hb q => hk' c o (fun e => hb (by simp [e])) (fun e => hb (by simp [e])) (fun e => hb (by simp [e])) (fun e => hb (by simp [e])) q) (fun c hc => (hf c (List.mem_cons_of_mem _ hc)).1) (Nat.le_refl _) new
    have hnone : H s.heap.objs.size = none := I.hok.fresh (Nat.le_refl _)
    have sm : Same H (upd H s.heap.objs.size (.tup [xs[i], ys[i]'(by omega)])) := same_upd hnone
    have hf1 : ∀ c ∈ [S, z, TO, i1, i2], FpOk X pins (upd H s.heap.objs.size (.tup [xs[i], ys[i]'(by omega)])) c := fun c hc => by
      obtain ⟨q, r⟩ := (hf c hc).1
      exact ⟨by rw [upd_ne (fl c hc)]; exact q, r⟩
    refine wpAny_updateSeq hL' rfl (wpAny_pure ⟨plainId_quiet F.plain_extend_loop _, ih (i + 1) _ (upd H s.heap.objs.size (.tup [xs[i], ys[i]'(by omega)])) (acc.push (.ref s.heap.objs.size)) _ (ts ++ [s.heap.objs.size]) (by omega) hlt
      (I1.turnedL (t' := s.toks) (ch := [S]) (fun c o hb q => (Heap.get?_update_other _ _ (fun e : S = c => hb (by simp [e]))).trans q) (fun c hc => hf1 c (by rw [List.mem_singleton.mp hc]; exact List.mem_cons_self)))
      (sqT_on sm qa) (sqT_on sm qb) (st'.on D hS fun c o hc q => (Heap.get?_update_other _ _ (Ne.symm hc)).trans q) (fun c hc => ⟨hf1 c hc, ?_⟩) (Heap.get?_update_self _ hL' rfl) (by rw [Array.toList_push, ha, List.map_append]; rfl) (by rw [List.length_append, ht]; rfl) (fun j t x y h1 h2 h3 => ?_) fun s' H' acc' c' ts' I' sm' => hR s' H' acc' c' ts' I' (sm.trans sm')⟩)
      (by rw [hsz0]; omega) (by show (acc.push _).size ≤ sizeLine + 1; rw [Array.size_push, hsz0]; omega)
    · have h1 := (hf c hc).2
      show c < ((h'.update S _).objs.size)
      rw [Heap.size_update, hsz]
      exact Nat.lt_succ_of_lt h1
    · by_cases hj : j < ts.length
      · rw [List.getElem?_append_left hj] at h1
        exact sm _ _ (hz j t x y h1 h2 h3)
      · have hj' := (List.getElem?_eq_some_iff.mp h1).1
        rw [List.length_append, List.length_singleton] at hj'
        have e1 : j = i := by omega
        subst e1
        rw [List.getElem?_append_right (by omega), show j - ts.length = 0 by omega] at h1
        rw [hx] at h2
        rw [hy] at h3
        have e1 : s.heap.objs.size = t := Option.some.inj h1
        rw [← Option.some.inj h2, ← Option.some.inj h3, ← e1]
        exact upd_same

theorem collect_zip {A : Around} {E : Value → Shared → Prop} {s : Shared} {H : Hp} {z TI TO i1 i2 a b : Addr} {x0 y0 : Value} {xs ys : List V} {Q : List Value → Shared → Prop} (hh : A.handled = none) (D : ZipApart z TI TO i1 i2 a b) (hl : xs.length = ys.length) (hn : xs.length ≤ sizeLine)
    (I : Inv X pins σ H s) (qa : SqT X.K H a xs) (qb : SqT X.K H b ys) (hz : IsZip s.heap z TI TO .none) (hTI : IsPair s.heap TI (.ref i1) (.ref i2)) (hTO : IsPair s.heap TO x0 y0) (h1 : s.heap.IsTupleIter i1 a 0) (h2 : s.heap.IsTupleIter i2 b 0)
    (hf : ∀ c ∈ [z, TO, i1, i2], FpOk X pins H c) (hQ : ∀ (s' : Shared) (H' : Hp) (ts : List Addr), Inv X pins σ H' s' → Same H H' → ts.length = xs.length → Zs H' xs ys ts → Q (ts.map Value.ref) s') :
    wpAny (model X.prog X.w) A (collect (.ref z)) Q E s := by
  obtain ⟨oi1, ho1, hc1, hd1⟩ := id h1
  obtain ⟨oi2, ho2, hc2, hd2⟩ := id h2
  have lt : ∀ {c o}, s.heap.get? c = some o → s.heap.objs.size ≠ c := fun e => Nat.ne_of_gt (Heap.lt_size e)
  have hS : s.heap.objs.size ≠ z ∧ s.heap.objs.size ≠ TI ∧ s.heap.objs.size ≠ TO ∧ s.heap.objs.size ≠ i1 ∧ s.heap.objs.size ≠ i2 := ⟨lt hz, lt hTI, lt hTO, lt ho1, lt ho2⟩
  have hSf : FpOk X pins H s.heap.objs.size := I.fpOk (Nat.le_refl _) (I.hok.fresh (Nat.le_refl _))
  unfold collect
  refine wpAny_bind (wpAny_runValue (codeAny_builtin F.entry_proto_collect ?_))
  rw [Around.under_plainId F.plain_proto_collect _]
  show wpAny _ A.in1 (newList [] >>= fun l' => again (.builtin "list.__iadd__" ⟨[l', .ref z], []⟩)) _ _ s
  refine wpAny_bind (wpAny_newObj_type ?_)
  refine wpAny_pure ⟨plainId_quiet F.plain_list_iadd _, codeAny_builtin F.entry_list_iadd ?_⟩
  rw [Around.under_plainId F.plain_list_iadd _]
  have hz1 : IsZip (s.heap.push { cls := .type "list", data := .seq ([] : List Value).toArray }) z TI TO .none := Heap.get?_push_of_some _ hz
  have hT1 : ({ s with heap := s.heap.push { cls := .type "list", data := .seq ([] : List Value).toArray } } : Shared).TypeIs (.ref z) "zip" := ⟨_, hz1, rfl⟩
  show wpAny _ A.in1 (Builtin.List.listExtendWith (.ref s.heap.objs.size) (.ref z) (.ref s.heap.objs.size)) _ _ _
  unfold Builtin.List.listExtendWith
  refine wpAny_bind (wpAny_typeOf hT1 ?_)
  have e1 : Builtin.List.listSameRef (.ref s.heap.objs.size) (.ref z) = false := by simp [Builtin.List.listSameRef, hS.1]
  have e2 : (Value.type "zip" == Value.type "list") = false := by decide
  have e3 : (Value.type "zip" == Value.type "tuple") = false := by decide
  simp only [e1, e2, e3, Bool.or_false, Bool.false_eq_true, if_false]
  refine wpAny_bind (wpAny_pyIter_zip (s := { s with heap := s.heap.push { cls := .type "list", data := .seq ([] : List Value).toArray } }) hz1 ?_)
  refine wpAny_bind (wpAny_holding ?_)
  unfold Builtin.List.listLengthHint
  refine wpAny_bind (wpAny_specialOf hT1 nolen_zip ?_)
  show wpAny _ A.in1 (specialOf (Value.ref z) (Str.ofString "__length_hint__") >>= _) _ _ _
  refine wpAny_bind (wpAny_specialOf hT1 hint_zip ?_)
  refine wpAny_pure ?_
  show wpAny _ A.in1 (rule "list.extend.makes-room" >>= fun _ => Builtin.List.listTouch (.ref s.heap.objs.size) >>= fun _ =>
    again (.builtin "list.extend.loop" ⟨[.ref s.heap.objs.size, .ref z, .ref s.heap.objs.size], []⟩)) _ _ _
  refine wpAny_bind (wpAny_rule ?_)
  have hS₁ : (s.heap.push { cls := .type "list", data := .seq ([] : List Value).toArray }).get? s.heap.objs.size = some { cls := .type "list", data := .seq ([] : List Value).toArray } := Heap.get?_push_size _ rfl
  refine wpAny_bind ?_
  show wpAny _ A.in1 (updateSeq s.heap.objs.size (·.push .none) >>= fun _ => updateSeq s.heap.objs.size (·.pop)) _ _ _
  refine wpAny_bind (wpAny_updateSeq hS₁ rfl ?_)
  have hS₂ := Heap.get?_update_self (Obj.mapSeq (·.push Value.none)) hS₁ rfl
  refine wpAny_updateSeq hS₂ rfl ?_
  have hS₃ := Heap.get?_update_self (Obj.mapSeq (·.pop)) hS₂ rfl
  have oth : ∀ b o, b ≠ s.heap.objs.size → s.heap.get? b = some o →
      (((s.heap.push { cls := .type "list", data := .seq ([] : List Value).toArray }).update s.heap.objs.size (Obj.mapSeq (·.push Value.none))).update s.heap.objs.size (Obj.mapSeq (·.pop))).get? b = some o :=
    fun b o hb e => (Heap.get?_update_other _ _ (Ne.symm hb)).trans ((Heap.get?_update_other _ _ (Ne.symm hb)).trans (Heap.get?_push_of_some _ e))
  have I1 : Inv X pins σ H { s with heap := ((s.heap.push { cls := .type "list", data := .seq ([] : List Value).toArray }).update s.heap.objs.size (Obj.mapSeq (·.push Value.none))).update s.heap.objs.size (Obj.mapSeq (·.pop)) } :=
    I.turnedL (t' := s.toks) (ch := [s.heap.objs.size]) (fun b o hb e => oth b o (fun q => hb (by simp [q])) e) (fun c hc => by rw [List.mem_singleton.mp hc]; exact hSf)
  have hsz : (((s.heap.push { cls := .type "list", data := .seq ([] : List Value).toArray }).update s.heap.objs.size (Obj.mapSeq (·.push Value.none))).update s.heap.objs.size (Obj.mapSeq (·.pop))).objs.size = s.heap.objs.size + 1 := by
    rw [Heap.size_update, Heap.size_update, Heap.size_push]
  refine wpAny_pure ⟨plainId_quiet F.plain_extend_loop _, ext_zip (X := X) (pins := pins) (σ := σ) (A := A) hh D hS hl hn xs.length 0 _ H _ _ [] (by omega) (Nat.zero_le _) I1 qa qb
    ⟨oth _ _ (Ne.symm hS.2.1) hTI, ⟨oi1, oth _ _ (Ne.symm hS.2.2.2.1) ho1, hc1, hd1⟩, ⟨oi2, oth _ _ (Ne.symm hS.2.2.2.2) ho2, hc2, hd2⟩, .inl ⟨oth _ _ (Ne.symm hS.1) hz, _, _, oth _ _ (Ne.symm hS.2.2.1) hTO⟩⟩ (fun c hc => ?_) hS₃ rfl rfl (fun j t x y h => by simp at h) fun s' H' acc' c' ts' I' sm hL' ha hl' hz' => ?_⟩
  · show FpOk X pins H c ∧ c < (((s.heap.push { cls := .type "list", data := .seq ([] : List Value).toArray }).update s.heap.objs.size (Obj.mapSeq (·.push Value.none))).update s.heap.objs.size (Obj.mapSeq (·.pop))).objs.size
    rw [hsz]
    rcases List.mem_cons.mp hc with rfl | hc
    · exact ⟨hSf, Nat.lt_succ_self _⟩
    · refine ⟨hf c hc, ?_⟩
      have e' : c = z ∨ c = TO ∨ c = i1 ∨ c = i2 := by simpa using hc
      refine Nat.lt_succ_of_lt ?_
      rcases e' with q | q | q | q
      · rw [q]; exact Heap.lt_size hz
      · rw [q]; exact Heap.lt_size hTO
      · rw [q]; exact Heap.lt_size ho1
      · rw [q]; exact Heap.lt_size ho2
  · show wpAny _ A (load s.heap.objs.size >>= _) _ _ s'
    refine wpAny_bind (wpAny_load hL' ?_)
    refine wpAny_pure ?_
    show Q acc'.toList s'
    rw [ha]
    exact hQ s' H' ts' I' sm hl' hz'
theorem code_tuple_new_zip {A : Around} {E : Value → Shared → Prop} {s : Shared} {H : Hp} {z TI TO i1 i2 a b : Addr} {x0 y0 : Value} {xs ys : List V} {Q₁ : Value → Shared → Prop} (hh : A.handled = none) (D : ZipApart z TI TO i1 i2 a b) (hl : xs.length = ys.length) (hn : xs.length ≤ sizeLine)
    (I : Inv X pins σ H s) (qa : SqT X.K H a xs) (qb : SqT X.K H b ys) (hz : IsZip s.heap z TI TO .none) (hTI : IsPair s.heap TI (.ref i1) (.ref i2)) (hTO : IsPair s.heap TO x0 y0) (h1 : s.heap.IsTupleIter i1 a 0) (h2 : s.heap.IsTupleIter i2 b 0)
    (hf : ∀ c ∈ [z, TO, i1, i2], FpOk X pins H c) (h : ∀ (s' : Shared) (H' : Hp) (ts : List Addr), Inv X pins σ H' s' → Same H H' → ts.length = xs.length → Zs H' xs ys ts → Q₁ (.ref s'.heap.objs.size) { s' with heap := s'.heap.push { cls := .type "tuple", data := .seq (ts.map Value.ref).toArray } }) :
    codeAny (model X.prog X.w) A (.call (.builtin "tuple.__new__") ⟨[.type "tuple", .ref z], []⟩) (wants Q₁ E) s := by
  refine codeAny_of_tree ?_
  show wpAny _ A.in1 (do checkBuiltinCall "tuple.__new__" ⟨[.type "tuple", .ref z], []⟩; again (.builtin "tuple.__new__" ⟨[.type "tuple", .ref z], []⟩)) _ _ s
  refine wpAny_bind (wpAny_of_eq (F.newCall_tuple_1 _) (wpAny_pure ⟨plainId_quiet F.plain_tuple_new _, codeAny_builtin F.entry_tuple_new ?_⟩))
  rw [Around.under_plainId F.plain_tuple_new _]
  have hsub := sub_tuple_self
  have hinit := init_tuple_lookup
  have hmh := madeHere_tuple
  have hTI' : s.TypeIs (.ref z) "zip" := ⟨_, hz, rfl⟩
  have hh1 : A.in1.handled = none := hh
  wp_walk using wpAny_typeOf hTI', collect_zip (A := A.in1) hh1 D hl hn I qa qb hz hTI hTO h1 h2 hf
  intro s' H' ts I' sm hl' hz'
  show wpAny _ _ (Builtin.Tuple.tupleExact (ts.map Value.ref).toArray >>= fun v => ret v) _ _ _
  unfold Builtin.Tuple.tupleExact
  refine wpAny_bind (wpAny_newObj_type ?_ (by show (ts.map Value.ref).toArray.size ≤ sizeLine; rw [List.size_toArray, List.length_map, hl']; exact hn))
  exact wpAny_pure (h s' H' ts I' sm hl' hz')
theorem call_tuple_zip {A : Around} {E : Value → Shared → Prop} {s : Shared} {H : Hp} {z TI TO i1 i2 a b : Addr} {x0 y0 : Value} {xs ys : List V} {Q : Value → Shared → Prop} (hh : A.handled = none) (D : ZipApart z TI TO i1 i2 a b) (hl : xs.length = ys.length) (hn : xs.length ≤ sizeLine)
    (I : Inv X pins σ H s) (qa : SqT X.K H a xs) (qb : SqT X.K H b ys) (hz : IsZip s.heap z TI TO .none) (hTI : IsPair s.heap TI (.ref i1) (.ref i2)) (hTO : IsPair s.heap TO x0 y0) (h1 : s.heap.IsTupleIter i1 a 0) (h2 : s.heap.IsTupleIter i2 b 0)
    (hf : ∀ c ∈ [z, TO, i1, i2], FpOk X pins H c) (hQ : ∀ (s' : Shared) (H' : Hp) (ts : List Addr), Inv X pins σ H' s' → Same H H' → ts.length = xs.length → Zs H' xs ys ts → Q (.ref s'.heap.objs.size) { s' with heap := s'.heap.push { cls := .type "tuple", data := .seq (ts.map Value.ref).toArray } }) :
    wpAny (model X.prog X.w) A (call (.type "tuple") [.ref z]) Q E s := by
  refine callType_codes (Q₁ := fun obj s₁ => s₁.TypeIs obj "tuple" ∧ Q obj s₁) F.called_tuple (F.typeCall_tuple_1 _) F.entry_object_init
    (code_tuple_new_zip (A := A.in1) hh D hl hn I qa qb hz hTI hTO h1 h2 hf fun s' H' ts I' sm hl' hz' => ⟨⟨_, Heap.get?_push_size _ rfl, rfl⟩, hQ s' H' ts I' sm hl' hz'⟩) fun obj s₁ h₁ => ?_
  exact ⟨h₁.1, F.args_object_init_2 obj _, object_init_meets F.called_tuple.init.lookup F.called_tuple.made (by decide) X.prog X.w A.in1 _ s₁ ⟨h₁.1, rfl, h₁.2⟩⟩
end
section
variable {X : Cx}
/-- tuple(zip(a, b)) of two tuples of one length -/
def tTupZip (K : PySem.W.Frag) (ta : TA) : TE := fun σ H Q => ta σ H fun vs H1 => ∃ a b xs ys, vs = [V.ref a, V.ref b] ∧ SqT K H1 a xs ∧ SqT K H1 b ys ∧ xs.length = ys.length ∧ xs.length ≤ sizeLine ∧
  ∀ (p : Addr) (ts : List Addr) H2, Same H1 H2 → H2 p = some (.tup (ts.map V.ref)) → ts.length = xs.length → Zs H2 xs ys ts → Q (.ref p) H2
theorem vals_refs : ∀ ts : List Addr, Vals (ts.map V.ref) (ts.map Value.ref)
  | [] => .nil
  | t :: r => .cons rfl (vals_refs r)
/-- a fresh zip of two tuples -/
def AtZip (X : Cx) (pins : List (Addr × Obj)) (σ : L2.St) (R : List V → List V → Hp → Prop) : Value → Shared → Prop := fun x s1 => ∃ (z TI TO i1 i2 a b : Addr) (x0 y0 : Value) (xs ys : List V) (H1 : Hp), x = .ref z ∧ ZipApart z TI TO i1 i2 a b ∧ Inv X pins σ H1 s1 ∧ SqT X.K H1 a xs ∧ SqT X.K H1 b ys ∧
  IsZip s1.heap z TI TO .none ∧ IsPair s1.heap TI (.ref i1) (.ref i2) ∧ IsPair s1.heap TO x0 y0 ∧ s1.heap.IsTupleIter i1 a 0 ∧ s1.heap.IsTupleIter i2 b 0 ∧ (∀ c ∈ [z, TO, i1, i2], FpOk X pins H1 c) ∧ R xs ys H1
theorem eval_zip {e e2 : Expr} {ta : TA} {p pos : Pos} {pins : List (Addr × Obj)} {σ : L2.St} {H : Hp} {s : Shared} {R : List V → List V → Hp → Prop} (hg : Gl X "zip") (hm : X.mg "zip" = none) (ha : PA X [e, e2] ta) (I : Inv X pins σ H s)
    (h : ta σ H fun vs H1 => ∃ a b xs ys, vs = [V.ref a, V.ref b] ∧ SqT X.K H1 a xs ∧ SqT X.K H1 b ys ∧ R xs ys H1)
    (hs : starEach [e, e2] X.env = (false, eval e X.env) :: starEach [e2] X.env := by rfl) (hpl : (backTo pos (starEach [e2] X.env)).any (·.1) = false := by rfl) :
    wpAny (model X.prog X.w) X.A (eval (.Call (.Name "zip" p) [e, e2] [] pos) X.env) (AtZip X pins σ R) X.xe s := by
  refine Call_ (ld_blt I hg hm PyProof.Rows.boot_zip (PyProof.Rows.callWith_type1 (thn (ha.run pos pins s σ H _ I h) fun us s1 ⟨vs, H1, I1, r1, q1⟩ => ?_) hs hpl))
  obtain ⟨a, b, xs, ys, ex, qa, qb, q⟩ := q1
  subst ex
  cases r1 with
  | cons r rr =>
    cases rr with
    | cons r' rr =>
      cases rr
      cases r
      cases r'
      obtain ⟨its, rv, p1, _⟩ := I1.tuple qa
      obtain ⟨its2, rv2, p2, _⟩ := I1.tuple qb
      obtain ⟨o1, ho1, _⟩ := id p1
      obtain ⟨o2, ho2, _⟩ := id p2
      refine call_zipT (show s1.heap.IsTuple a its.toArray from p1) (show s1.heap.IsTuple b its2.toArray from p2) fun h' hz hTI hTO h1 h2 hsz hk => ?_
      have I2 : Inv X pins σ H1 { s1 with heap := h' } := I1.kept (t' := s1.toks) hk
      refine ⟨s1.heap.objs.size + 4, s1.heap.objs.size + 2, s1.heap.objs.size + 3, s1.heap.objs.size, s1.heap.objs.size + 1, a, b, _, _, xs, ys, H1, rfl, PySem.W.ktu_apart s1.heap.objs.size a b (Heap.lt_size ho1) (Heap.lt_size ho2), I2, qa, qb, hz, hTI, hTO, h1, h2, fun c hcm => ?_, q⟩
      have e' : c = s1.heap.objs.size + 4 ∨ c = s1.heap.objs.size + 3 ∨ c = s1.heap.objs.size ∨ c = s1.heap.objs.size + 1 := by simpa using hcm
      have hle : s1.heap.objs.size ≤ c := by
        rcases e' with z | z | z | z
        · rw [z]; exact Nat.le_add_right _ _
        · rw [z]; exact Nat.le_add_right _ _
        · rw [z]; exact Nat.le_refl _
        · rw [z]; exact Nat.le_add_right _ _
      exact I1.fpOk hle (I1.hok.fresh hle)
theorem pe_tupZip {e e2 : Expr} {ta : TA} {p p2 pos pos2 : Pos} (hc : X.calm = true) (hg : Gl X "tuple") (hm : X.mg "tuple" = none) (hg2 : Gl X "zip") (hm2 : X.mg "zip" = none) (ha : PA X [e, e2] ta)
    (hs : starEach [e, e2] X.env = (false, eval e X.env) :: starEach [e2] X.env := by rfl) (hpl : (backTo pos2 (starEach [e2] X.env)).any (·.1) = false := by rfl)
    (na : starEach [.Call (.Name "zip" p2) [e, e2] [] pos2] X.env = (false, eval (.Call (.Name "zip" p2) [e, e2] [] pos2) X.env) :: starEach [] X.env := by rfl) :
    PE X (.Call (.Name "tuple" p) [.Call (.Name "zip" p2) [e, e2] [] pos2] [] pos) (tTupZip X.K ta) := by
  refine ⟨fun pins s σ H Q I h => ?_⟩
  refine Call_ (ld_blt I hg hm boot_tuple (PyProof.Rows.callWith_type1 (args_cons (thn (eval_zip (R := fun xs ys H1 => xs.length = ys.length ∧ xs.length ≤ sizeLine ∧ ∀ (p : Addr) (ts : List Addr) H2, Same H1 H2 → H2 p = some (.tup (ts.map V.ref)) → ts.length = xs.length → Zs H2 xs ys ts → Q (.ref p) H2) hg2 hm2 ha I h hs hpl) fun x s1 hx => args_nil ?_) na) na))
  obtain ⟨z, TI, TO, i1, i2, a, b, x0, y0, xs, ys, H1, rfl, D, I1, qa, qb, hz, hTI, hTO, h1, h2, hf, hl, hn, q⟩ := hx
  refine call_tuple_zip (I1.ok.hd hc) D hl hn I1 qa qb hz hTI hTO h1 h2 hf fun s' H' ts I' sm hl' hz' => ?_
  have hno : H' s'.heap.objs.size = none := I'.hok.fresh (Nat.le_refl _)
  have sm2 := same_upd (o := .tup (ts.map V.ref)) hno
  exact ⟨.ref s'.heap.objs.size, upd H' s'.heap.objs.size (.tup (ts.map V.ref)), I'.laid (t' := s'.toks) (fun b o e => Heap.get?_push_of_some _ e) (Nat.le_refl _) (show ObjOk X.prog X.w _ _ _ (.tup (ts.map V.ref)) from ⟨by rw [List.length_map, hl']; exact hn, ts.map Value.ref, vals_refs ts, IsTup.new _ _⟩), rfl,
    q _ ts _ (sm.trans sm2) upd_same hl' (hz'.on sm2)⟩
end
end My

/-! My own rules: an operator between two instances of a class that has no reflected method for it. -/
namespace My
open PySem PySem.Spec PyProof.Rows L2
structure OpN (K : PySem.W.Frag) (C : Addr) (nm : String) (f : Addr) : Prop where
  sf : PySem.W.selfFirst K C = true
  ls : PySem.W.findIn K (.ref C) (PySem.dunder nm) = some (some (.ref f))
  lf : PySem.W.isFn K (.ref f) = true
section
variable {prog : Program} {w : World} {A : Around} {Ex : Value → Shared → Prop} {s : Shared} {K : PySem.W.Frag} {C f : Addr} {nm : String}
open PySem.W
theorem b1_ownN {x y : Addr} {odx ody : Option Obj} {ox oy : Obj} {Q : Value → Shared → Prop} (X : K.In s.heap) (O : OpN K C nm f) (I : InstAt s.heap x ox C odx) (J : InstAt s.heap y oy C ody)
    (h : wpAny (model prog w) A (call (.ref f) [.ref x, .ref y]) (PySem.W.CmpBack Q) Ex s) : wpAny (model prog w) A (binaryOp1 nm (.ref x) (.ref y)) (fun r s' => ∃ v, r = some v ∧ Q v s') Ex s := by
  obtain ⟨cd, rest, hcd, hm⟩ := ksp_first O.sf
  unfold binaryOp1
  refine wpAny_bind (I.type.here (wpAny_bind (J.type.here (wpAny_bind ((fills_K X hcd hm O.ls).here ?_)))))
  simp only [beq_self_eq_true, if_true]
  refine wpAny_bind (wpAny_pure ?_)
  simp only [Bool.and_false, Bool.false_eq_true, if_false, Bool.false_and]
  refine wpAny_bind (wpAny_pure ?_)
  simp only [Bool.false_eq_true, if_false]
  refine wpAny_bind (m := tryMethod (.ref x) _ (.ref y)) (wpAny_mono (ksp_try X I O.ls O.lf h) (fun r s' hr => ?_) fun _ _ e => e)
  obtain ⟨v, rfl, hq⟩ := hr
  exact wpAny_pure ⟨v, rfl, hq⟩
end
section
variable {X : Cx} {CX : CXT} {k : Nat} {C f : Addr} {fd : FuncData} {ps : List Str} {sp : Sp} {E : XK} {op : Operator}
theorem op_nn {nm : String} (hn : op.info.2 = nm) (O : OpN X.K C nm f) (F : FnOk X.prog X.w X.K X.mg X.base CX k f fd ps sp) (hr : Room k X.A) (hb : Binds X.K fd ps []) (hx : Passes CX X E) : OpR X (binaryOp op) (rOO C sp E) := by
  intro pins s σ H x y v u Q I rx ry h
  refine bin_of hn ?_
  obtain ⟨a, dx, fs, b, dy, gs, rfl, rfl, ea, eb, q⟩ := h
  obtain rfl : v = Value.ref a := rx
  obtain rfl : u = Value.ref b := ry
  obtain ⟨mA, J, _⟩ := ins_get I.hok ea
  obtain ⟨od, J, _⟩ := J.look
  obtain ⟨mB, J', _⟩ := ins_get I.hok eb
  obtain ⟨od', J', _⟩ := J'.look
  exact b1_ownN I.kIn O J J' (wpAny_mono (run_own (vs := [V.ref a, V.ref b]) F hr hb hx I (.cons rfl (.cons rfl .nil)) q) (fun _ _ z => back_of z) fun _ _ e => e)
theorem op_notInR {j : Nat} (hr : Room j X.A) : OpR X (compareOp .NotIn) (rNotInD X.K) := op_notInD (by have := hr.un; omega)
end
end My

/-! My own rule: several except clauses, each with a name of its own. -/
namespace My
open PySem PySem.Spec PyProof.Rows L2
/-- a clause: the class, the slot of its name, what its suite asks -/
abbrev Clause := Value × Nat × (Addr → Value → Option Addr → TS)
def wAsMany (K : PySem.W.Frag) (Wout : WX) (D : Ends) : List Clause → WX
  | [] => Wout
  | (c, i, ts) :: r => wAs K c i ts (wAsMany K Wout D r) D
inductive HdsAs (X : Cx) : List ExceptHandler → List Clause → Prop
  | nil : HdsAs X [] []
  | cons {x n : Str} {c : Value} {i : Nat} {ts : Addr → Value → Option Addr → TS} {b0 : Stmt} {suite : List Stmt} {np pos' : Pos} {hds : List ExceptHandler} {l : List Clause} (hi : X.N[i]? = some n) (hln : X.env.kindOf n = some .local) (hc : Names X x c)
      (hsu : ∀ (a : Addr) (oe : Obj) (cls : Value) (d : Option Addr) (pn : List (Addr × Obj)), Zc cls d oe → (∃ vs, oe.data = .fields vs) → PSs (X.suite a ((a, oe) :: pn)) (b0 :: suite) (ts a cls d)) (r : HdsAs X hds l) :
      HdsAs X (.ExceptHandler (some (.Name x np)) (some n) (b0 :: suite) pos' :: hds) ((c, i, ts) :: l)
section
variable {X : Cx} {body : List Stmt} {h0 : ExceptHandler} {hds : List ExceptHandler} {l : List Clause} {pos : Pos} {tb : WX → TS} {Wout : WX}
theorem ps_try_asMany (hs : X.stack = X.env :: X.outer) (hf : X.env.frame = some X.env.locals) (hN : X.N.Nodup) (tk : Takes X Wout)
    (hb : ∀ (W : WX) (pn : List (Addr × Obj)) (xe : Value → Shared → Prop), Takes (X.tr pn xe) W → PassesOwn (model X.prog X.w) X.A X.env xe → PSs (X.tr pn xe) body (tb W))
    (hh : HdsAs X (h0 :: hds) l) : PS X (.Try body (h0 :: hds) [] [] pos) (fun D σ H => tb (wAsMany X.K Wout D l) D σ H) := by
  refine ⟨fun pins s σ H D I h => ?_⟩
  have ok := I.ok
  have hfr : X.A.frames = some (X.env :: X.outer) := by rw [ok.frames, hs]
  refine wpAny_Try_except ?_
  refine wpAny_mono ((hb (wAsMany X.K Wout D l) (X.pn ++ pins) (fun e s1 => wpAny (model X.prog X.w) X.A (noteFrame e X.env) (fun _ s2 => wpAny (model X.prog X.w) X.A (setFlight e none) (fun _ s3 =>
    wpAny (model X.prog X.w) X.A (handleBy e X.env (h0 :: hds)) (SP X pins D) X.xe s3) X.xe s2) X.xe s1) (fun u s' xx => ?_) PassesOwn.looking).run [] s σ H D (I.toTry _) h) (fun f s1 hsp => ?_) (fun e s1 he => he)
  · obtain ⟨a, B, sI, pins', σ', H', cls, d, rfl, J', nb, up, sky, na, os, ag, w⟩ := xx
    have J : Inv X pins σ' H' sI := J'.ofTry ok
    have sky' : Sky B (X.env :: X.outer) a (Zc cls d) X.env.locals s'.heap := by rw [← hs]; exact sky
    show wpAny (model X.prog X.w) X.A (noteFrame (.ref a) X.env) _ _ _
    refine Sky.land Zc.steady hfr hf sky' fun h3 fl3 up3 => ?_
    have J3 : Inv X pins σ' H' { s' with heap := h3 } := J.landed nb fl3.1 (up.trans up3) os ag
    obtain ⟨oe3, vs3, he3, hz3, hd3⟩ := fl3.there
    have nfr : a ∉ frs (X.env :: X.outer) := fun hm => by
      obtain ⟨_, o', e', hnf⟩ := fl3.2.2.1.mem hm
      rw [he3] at e'; cases e'
      exact hnf _ hd3
    have nL : a ≠ X.env.locals := fun z => nfr (List.mem_filterMap.mpr ⟨X.env, List.mem_cons_self, by rw [hf, z]⟩)
    have nF : a ∉ X.fs := fun hm => by
      obtain ⟨e, he, q⟩ := List.mem_filterMap.mp hm
      exact nfr (List.mem_filterMap.mpr ⟨e, List.mem_cons_of_mem _ he, q⟩)
    have S3 := J3.suite he3 hd3 na nL nF
    have go : ∀ {hds' : List ExceptHandler} {l' : List Clause}, HdsAs X hds' l' → wAsMany X.K Wout D l' cls d σ' H' →
        wpAny (model X.prog X.w) X.A (handleBy (.ref a) X.env hds') (SP X pins D) X.xe { s' with heap := h3 } := by
      intro hds' l' hk
      induction hk with
      | nil =>
        intro w
        refine wpAny_handleBy_nil ?_
        obtain ⟨k1, k2, k3, oe, vs, T, oT, ts', he, hz, hd, h1, hr⟩ := id fl3
        unfold PySem.passOn
        refine wpAny_bind (wpAny_field he hd h1 ?_)
        rw [if_neg (show ¬ ((Value.ref T == Value.none) = true) from by simp)]
        have fin : wpAny (model X.prog X.w) X.A (setFlight (.ref a) X.env.frame) (fun _ s4 => wpAny (model X.prog X.w) X.A (throw (.ref a) : Sem Flow) (SP X pins D) X.xe s4) X.xe { s' with heap := h3 } := by
          rw [hf]
          refine HandSPX.setFlight_upZ fl3 fun h4 hh4 up4 => wpAny_throw (tk _ _ ?_)
          exact ⟨a, B, sI, pins, σ', H', cls, d, rfl, J, nb, (up.trans up3).trans up4, .inr (.inr (by rw [hs]; exact hh4)), na, os, ag, w⟩
        first
          | exact wpAny_bind (wpAny_pure (wpAny_bind fin))
          | exact wpAny_bind fin
      | @cons x n c i ts b0 suite np pos' hds2 l2 hi hln hc hsu r ih =>
        intro w
        obtain ⟨b, hb1, hyes, hno⟩ := w
        have hloc : Loc X.env.scope n := .inl hln
        refine wpAny_handleBy_cons (codeAny_handlers_test ?_) (by intro q; cases q)
        have LT : PySem.W.Looks (model X.prog X.w) h3 (typeOf (.ref a)) cls := fun A Q E s k q => wpAny_typeOf_ref (k _ _ he3) (by rw [hz3.1]; exact q)
        have LM := PySem.W.exm_one (M := model X.prog X.w) (J3.kIn) LT hb1
        have test : ∀ {Q : Value → Shared → Prop} {E : Value → Shared → Prop}, Q c { s' with heap := h3 } → wpAny (model X.prog X.w) (X.A.mark (some (.ref a))) (eval (.Name x np) X.env) Q E { s' with heap := h3 } := fun {Q E} q => by
          obtain ⟨hg, hdbg, hm | ⟨hm, hv, hnn⟩⟩ := hc
          · exact ld_glob (X := X.suite a ((a, oe3) :: (X.pn ++ pins))) S3 hg hm q hdbg
          · exact ld_blt (X := X.suite a ((a, oe3) :: (X.pn ++ pins))) S3 hg hm hv q hnn hdbg
        refine test (LM.here ?_)
        cases b with
        | true =>
          refine codeAny_handlers_suite_as ?_
          refine HandSPX.lands_againZ fl3 fun h4 fl4 up4 => ?_
          have J4 : Inv X pins σ' H' { s' with heap := h4 } := J.landed nb fl4.1 ((up.trans up3).trans up4) os ag
          obtain ⟨oe4, vs4, he4, hz4, hd4⟩ := fl4.there
          have S4 := J4.suite he4 hd4 na nL nF
          refine store_ok (X := X.suite a ((a, oe4) :: (X.pn ++ pins))) (v := .ref a) S4 hN hi hloc rfl (fun s5 S5 => ?_) (.inr hln)
          refine wpAny_mono ((hsu a oe4 cls d (X.pn ++ pins) hz4 ⟨_, hd4⟩).run [] s5 _ H' _ S5 (hyes rfl a na)) (fun f s6 hsp => ?_) (fun _ _ z => False.elim z)
          have end_ : ∀ {σ6 : L2.St} {H6 : Hp} {Q : Shared → Prop}, Inv (X.suite a ((a, oe4) :: (X.pn ++ pins))) [] σ6 H6 s6 → (∀ s7, Inv X pins (σ6.set i none) H6 s7 → Q s7) →
              wpAny (model X.prog X.w) X.A (do bindName X.env n .none; unbindBehindTheSuite X.env n pos') (fun _ s7 => Q s7) X.xe s6 := fun {σ6 H6 Q} S6 hq => gone_ok (S6.unsuite ok) hN hi hln hq
          cases f with
          | next =>
            obtain ⟨σ6, H6, S6, q6⟩ := hsp
            exact end_ S6 fun s7 J7 => ⟨_, _, J7, q6⟩
          | brk =>
            obtain ⟨σ6, H6, S6, q6⟩ := hsp
            exact end_ S6 fun s7 J7 => ⟨_, _, J7, q6⟩
          | cont =>
            obtain ⟨σ6, H6, S6, q6⟩ := hsp
            exact end_ S6 fun s7 J7 => ⟨_, _, J7, q6⟩
          | ret u =>
            obtain ⟨v6, σ6, H6, S6, r6, q6⟩ := hsp
            exact end_ S6 fun s7 J7 => ⟨_, _, _, J7, r6, q6⟩
        | false =>
          show wpAny _ X.A (handleBy (.ref a) X.env hds2) _ _ _
          exact ih (hno rfl)
    exact go hh w
  · cases f with
    | next =>
      obtain ⟨σ', H', J', q⟩ := hsp
      exact wpAny_execs_nil ⟨σ', H', J'.ofTry ok, q⟩
    | brk =>
      obtain ⟨σ', H', J', q⟩ := hsp
      exact ⟨σ', H', J'.ofTry ok, q⟩
    | cont =>
      obtain ⟨σ', H', J', q⟩ := hsp
      exact ⟨σ', H', J'.ofTry ok, q⟩
    | ret u =>
      obtain ⟨v, σ', H', J', r, q⟩ := hsp
      exact ⟨v, σ', H', J'.ofTry ok, r, q⟩
end
end My

/-! My own rules: o[k], o[k] = v, k in o, len(o) by the methods of an own class, also where they raise. -/
namespace My
open PySem PySem.Spec PyProof.Rows L2
/-- a method of the class for an operator -/
structure DunC (K : PySem.W.Frag) (C : Addr) (nm : Str) (f : Addr) : Prop where
  at_ : PySem.W.findIn K (.ref C) nm = some (some (.ref f))
  fn : PySem.W.isFn K (.ref f) = true
  fi : PySem.W.fnIn K f = true
  ns : PySem.W.noSeq K C = true
section
variable {X : Cx} {CX : CXT} {k : Nat} {C f : Addr} {fd : FuncData} {ps : List Str} {sp : Sp} {E : XK}
theorem passesAtOf {E : XK} (h : Passes CX X E) (σ : L2.St) : PassesAt CX X σ E := fun pins H s e s' I c => h pins σ H s e s' I c
theorem run_ownS {pins : List (Addr × Obj)} {s : Shared} {σ : L2.St} {H : Hp} {Q : VK} {us : List Value} {vs : List V} (F : FnOk X.prog X.w X.K X.mg X.base CX k f fd ps sp) (hr : Room k X.A) (hb : Binds X.K fd ps []) (hx : PassesAt CX X σ E)
    (I : Inv X pins σ H s) (r : Vals vs us) (h : sp vs H Q E) : wpAny (model X.prog X.w) X.A (call (.ref f) us) (EP X pins σ Q) X.xe s := by
  have hl : (us ++ []).length = ps.length := by
    rw [List.append_nil, ← F.len _ _ _ _ h]
    exact r.length.symm
  refine wpAny_call (codeAny_mono (F.run X.A X.stack s H ⟨us, []⟩ us vs _ E hr I.env0 (by
    have := hb s us I.kIn hl
    rw [List.append_nil] at this
    exact this) r h) fun r s' hq => ?_)
  cases r with
  | error e => exact hx pins H s e s' I hq
  | ok fl =>
    cases fl with
    | ret w => exact I.after hq
    | next => exact False.elim hq
    | brk => exact False.elim hq
    | cont => exact False.elim hq
theorem run_own1S {pins : List (Addr × Obj)} {s : Shared} {σ : L2.St} {H : Hp} {Q : VK} {us : List Value} {vs : List V} (F : FnOk X.prog X.w X.K X.mg X.base CX k f fd ps sp) (hr : Room (k + 1) X.A) (hb : Binds X.K fd ps []) (hx : PassesAt CX X σ E)
    (I : Inv X pins σ H s) (r : Vals vs us) (h : sp vs H Q E) : wpAny (model X.prog X.w) X.A.in1 (call (.ref f) us) (EP X pins σ Q) X.xe s := by
  have hl : (us ++ []).length = ps.length := by
    rw [List.append_nil, ← F.len _ _ _ _ h]
    exact r.length.symm
  refine wpAny_call (codeAny_mono (F.run X.A.in1 X.stack s H ⟨us, []⟩ us vs _ E hr.in1 I.env0.in1 (by
    have := hb s us I.kIn hl
    rw [List.append_nil] at this
    exact this) r h) fun r s' hq => ?_)
  cases r with
  | error e => exact hx pins H s e s' I hq
  | ok fl =>
    cases fl with
    | ret w => exact I.after hq
    | next => exact False.elim hq
    | brk => exact False.elim hq
    | cont => exact False.elim hq
/-! ### o[k] -/
def tGetO (C : Addr) (sp : Sp) (E : L2.St → XK) (ta tb : TE) : TE := fun σ H Q => ta σ H fun x H1 => tb σ H1 fun y H2 => ∃ a dx fs, x = V.ref a ∧ H2 a = some (.ins C dx fs) ∧ sp [.ref a, y] H2 Q (E σ)
theorem pe_getO {E : L2.St → XK} {a b : Expr} {ta tb : TE} {pos : Pos} (D : DunC X.K C "__getitem__" f) (F : FnOk X.prog X.w X.K X.mg X.base CX k f fd ps sp) (hr : Room (k + 1) X.A) (hb : Binds X.K fd ps []) (hx : ∀ σ, PassesAt CX X σ (E σ)) (pa : PE X a ta) (pb : PE X b tb)
    (hs : ∀ (x : Addr) (u : Value), subscripted b true (.ref x) u = runValue (.builtin "lifetime.subscript" ⟨[.ref x, u], []⟩)) : PE X (.Subscript a b pos) (tGetO C sp E ta tb) := by
  refine ⟨fun pins s σ H Q I h => ?_⟩
  refine Subscript_ (binT pa pb I (R := fun x y H2 => ∃ a dx fs, x = V.ref a ∧ H2 a = some (.ins C dx fs) ∧ sp [.ref a, y] H2 Q (E σ)) h fun v u s2 x y H2 I2 rx ry q => ?_)
  obtain ⟨p, dx, fs, rfl, ea, q⟩ := q
  obtain rfl : v = Value.ref p := rx
  obtain ⟨mA, J, _⟩ := ins_get I2.hok ea
  obtain ⟨od, J, _⟩ := J.look
  obtain ⟨m, hF⟩ := I2.fr
  exact PySem.W.sub_K hF I2.ok.mod.kin J D.at_ D.fi D.fn (run_own1S (vs := [V.ref p, y]) F hr hb (hx σ) I2 (.cons rfl (.cons ry .nil)) q) (hs p u)
/-! ### k in o -/
def rInI (C : Addr) (sp : Sp) (E : XK) (neg : Bool) : R2 := fun x y H Q => ∃ a dx fs, y = V.ref a ∧ H a = some (.ins C dx fs) ∧ sp [.ref a, x] H (fun v H' => ∃ b, v = .bl b ∧ Q (.bl (if neg then !b else b)) H') E
theorem op_inO (D : DunC X.K C "__contains__" f) (F : FnOk X.prog X.w X.K X.mg X.base CX k f fd ps sp) (hr : Room k X.A) (hb : Binds X.K fd ps []) (hx : Passes CX X E) : OpR X (compareOp .In) (rInI C sp E false) := by
  intro pins s σ H x y v u Q I rx ry h
  obtain ⟨p, dx, fs, rfl, ea, q⟩ := h
  obtain rfl : u = Value.ref p := ry
  obtain ⟨mA, J, _⟩ := ins_get I.hok ea
  obtain ⟨od, J, _⟩ := J.look
  obtain ⟨m, hF⟩ := I.fr
  refine PySem.W.in_K hF I.ok.mod.kin J D.at_ D.fn (wpAny_mono (run_ownS (vs := [V.ref p, x]) F hr hb (passesAtOf hx σ) I (.cons rfl (.cons rx .nil)) q) (fun r s' hr' => ?_) fun _ _ e => e)
  obtain ⟨z, H2, I2, rz, b, ez, q2⟩ := hr'
  subst ez
  obtain rfl : r = Value.bool b := rz
  exact wpAny_truthy_bool ⟨.bl b, H2, I2, rfl, q2⟩
theorem op_notInO (D : DunC X.K C "__contains__" f) (F : FnOk X.prog X.w X.K X.mg X.base CX k f fd ps sp) (hr : Room k X.A) (hb : Binds X.K fd ps []) (hx : Passes CX X E) : OpR X (compareOp .NotIn) (rInI C sp E true) := by
  intro pins s σ H x y v u Q I rx ry h
  obtain ⟨p, dx, fs, rfl, ea, q⟩ := h
  obtain rfl : u = Value.ref p := ry
  obtain ⟨mA, J, _⟩ := ins_get I.hok ea
  obtain ⟨od, J, _⟩ := J.look
  obtain ⟨m, hF⟩ := I.fr
  refine PySem.W.notIn_K hF I.ok.mod.kin J D.at_ D.fn (wpAny_mono (run_ownS (vs := [V.ref p, x]) F hr hb (passesAtOf hx σ) I (.cons rfl (.cons rx .nil)) q) (fun r s' hr' => ?_) fun _ _ e => e)
  obtain ⟨z, H2, I2, rz, b, ez, q2⟩ := hr'
  subst ez
  obtain rfl : r = Value.bool b := rz
  exact wpAny_truthy_bool ⟨.bl (!b), H2, I2, rfl, q2⟩
/-! ### len(o) -/
def rLenO (C : Addr) (sp : Sp) (E : XK) : List V → Hp → VK → Prop := fun xs H Q => ∃ a dx fs, xs = [V.ref a] ∧ H a = some (.ins C dx fs) ∧ sp [.ref a] H (fun v H' => ∃ n : Int, v = .int n ∧ 0 ≤ n ∧ n < 2 ^ 63 ∧ Q (.int n) H') E
theorem call_lenO (D : DunC X.K C "__len__" f) (F : FnOk X.prog X.w X.K X.mg X.base CX k f fd ps sp) (hr : Room (k + 1) X.A) (hb : Binds X.K fd ps []) (hx : Passes CX X E) : CallR X (.builtin "len") (rLenO C sp E) := by
  intro pins s σ H xs us Q I r h
  obtain ⟨p, dx, fs, rfl, ea, q⟩ := h
  obtain ⟨u, rfl, rx⟩ := vals1 r
  obtain rfl : u = Value.ref p := rx
  obtain ⟨mA, J, _⟩ := ins_get I.hok ea
  obtain ⟨od, J, _⟩ := J.look
  obtain ⟨m, hF⟩ := I.fr
  refine PySem.W.len_K hF I.ok.mod.kin J D.at_ D.fn (wpAny_mono (run_own1S (vs := [V.ref p]) F hr hb (passesAtOf hx σ) I (.cons rfl .nil) q) (fun r s' hr' => ?_) fun _ _ e => e)
  obtain ⟨z, H2, I2, rz, n, ez, n0, n1, q2⟩ := hr'
  subst ez
  obtain ⟨t, rfl⟩ := rz
  exact ⟨⟨n0, n1⟩, .int n, H2, I2.tok _, ⟨_, rfl⟩, q2⟩
/-! ### o[k] = v -/
def gSetO (C : Addr) (sp : Sp) (E : L2.St → XK) (to ti : TE) : TG := fun v σ H Q => to σ H fun o H1 => ti σ H1 fun i H2 => ∃ a dx fs, o = V.ref a ∧ H2 a = some (.ins C dx fs) ∧ sp [.ref a, i, v] H2 (fun _ H3 => Q σ H3) (E σ)
theorem pg_setO {E : L2.St → XK} {o i : Expr} {to ti : TE} {pos : Pos} (D : DunC X.K C "__setitem__" f) (F : FnOk X.prog X.w X.K X.mg X.base CX k f fd ps sp) (hr : Room k X.A) (hb : Binds X.K fd ps []) (hx : ∀ σ, PassesAt CX X σ (E σ)) (ho : PE X o to) (hi : PE X i ti)
    (ha : ∀ v, assign (.Subscript o i pos) X.env v = (do
      let ov ← holding [v] (eval o X.env)
      let iv ← holding [v, ov] (eval i X.env)
      standAt pos
      holding [v, ov, iv] (setItem ov iv v)
      release [v, ov, iv] []) := by intro _; rfl) : PG X (.Subscript o i pos) (gSetO C sp E to ti) := by
  refine ⟨fun pins s σ H v u Q I r h => ?_⟩
  rw [ha]
  refine wpAny_bind (wpAny_holding (thn (ho.run pins s σ H _ I h) fun ov s1 ⟨x, H1, I1, r1, q1⟩ => ?_))
  refine wpAny_bind (wpAny_holding (thn (hi.run pins s1 σ H1 _ I1 q1) fun iv s2 ⟨y, H2, I2, r2, q2⟩ => ?_))
  obtain ⟨p, dx, fs, rfl, ea, q⟩ := q2
  obtain rfl : ov = Value.ref p := r1
  obtain ⟨mA, J, _⟩ := ins_get I2.hok ea
  obtain ⟨od, J, _⟩ := J.look
  obtain ⟨m, hF⟩ := I2.fr
  refine wpAny_bind (wpAny_standAt (wpAny_bind (wpAny_holding (PySem.W.ksp_setItem hF I2.ok.mod.kin J D.ns D.at_ D.fn (wpAny_mono (run_ownS (vs := [V.ref p, y, v]) F hr hb (hx σ) I2 (.cons rfl (.cons r2 (.cons r .nil))) q) (fun r s3 hr' => ?_) fun _ _ e => e)))))
  obtain ⟨z, H3, I3, rz, q3⟩ := hr'
  exact wpAny_release ⟨σ, H3, I3, q3⟩
end
end My

/-! My own rules: a dict's display that begins with another dict; tuple(d) of a dict. -/
namespace My
open PySem PySem.Spec PyProof.Rows L2
section
variable {prog : Program} {w : World} {K : Type} [DecidableEq K] {knd : KeyKind prog w K} {A : Around} {E : Value → Shared → Prop} {s : Shared}
/-- one entry laid by the display's merge -/
theorem put_kv {a : Addr} {ps : List (K × Value)} {x : K} {u y : Value} {R : Unit → Shared → Prop} (hx : knd.is x u = true) (D : s.heap.DictOf knd a ps) (hl : ps.length ≤ sizeLine)
    (q : ∀ g, g.DictOf knd a (stored ps x y) → Heap.SameBut a s.heap g → R () { s with heap := g }) : wpAny (model prog w) A (dictPut a (knd.hash x) u y) R E s := by
  obtain ⟨ob, en, ep, e1, e2, e3, e4, e5, e6⟩ := D
  have len : en.size ≤ sizeLine := by
    have t := e5.length
    rw [Array.length_toList] at t
    omega
  have same : (en.findIdx? fun z => knd.is x z.key) = ps.findIdx? fun z => decide (z.1 = x) := by
    have t := e5.findIdx x
    obtain ⟨l⟩ := en
    simpa using t
  unfold dictPut
  refine wpAny_bind (wpAny_dictFind_of hx e1 e3 e4 ?_)
  cases hi : en.findIdx? fun z => knd.is x z.key with
  | none =>
    have out : x ∉ ps.map (·.1) := not_mem_of_findIdx_none (same ▸ hi)
    have none' : ¬ (ps.any fun z => decide (z.1 = x)) = true := fun t => by
      obtain ⟨z, z1, z2⟩ := List.any_eq_true.mp t
      exact out (List.mem_map.mpr ⟨z, z1, of_decide_eq_true z2⟩)
    refine wpAny_updateDictKeys (hz := len) e1 e3 (q _ ?_ (Heap.SameBut.update ..))
    refine ⟨_, _, ep + 1, Heap.get?_update_self _ e1 (Obj.isFreed_of_dict (Obj.data_mapDictKeys e3 _)), e2.mapDictKeys _, Obj.data_mapDictKeys e3 _, e4.push hx _, ?_, ?_⟩
    · rw [stored, if_neg none']
      have t := e5.append hx (knd.hash x) y
      obtain ⟨l⟩ := en
      simpa using t
    · rw [stored, if_neg none', List.map_append]
      refine List.nodup_append.mpr ⟨e6, by simp, fun c hc b hb => ?_⟩
      simp only [List.map_cons, List.map_nil, List.mem_singleton] at hb
      rw [hb]
      exact fun t => out (t ▸ hc)
  | some i =>
    have there := any_of_findIdx_some (same ▸ hi)
    have hi' : (en.toList.findIdx? fun z => knd.is x z.key) = some i := by
      rw [← hi]
      obtain ⟨l⟩ := en
      simp
    refine wpAny_updateDict e1 e3 (q _ ?_ (Heap.SameBut.update ..))
    refine ⟨_, _, ep, Heap.get?_update_self _ e1 (Obj.isFreed_of_dict (Obj.data_mapDict e3 _)), e2.mapDict _, Obj.data_mapDict e3 _, e4.modify _ _, ?_, ?_⟩
    · rw [stored, if_pos there]
      have t := e5.modify e6 hi' y
      obtain ⟨l⟩ := en
      simpa using t
    · rw [stored, if_pos there, keys_map_store]
      exact e6
theorem not_ref {P : Program} {W : World} {T : Type} [DecidableEq T] {kd : KeyKind P W T} {en : Array DictEntry} (h : KeysOf kd en) : ∀ z ∈ en.toList, ∀ a, z.key ≠ .ref a := fun z hz a e => by
  obtain ⟨x, hx, _⟩ := h z (by simpa using hz)
  have t := kd.byValue x z.key hx
  rw [e] at t
  cases t
/-- the display's merge of a whole dict into another -/
theorem merge_kv {a b : Addr} {ps qs : List (K × Value)} {R : Unit → Shared → Prop} (hab : a ≠ b) (hb : (b == sysModules) = false) (Da : s.heap.DictOf knd a ps) (Db : s.heap.DictOf knd b qs)
    (hl : ps.length + qs.length ≤ sizeLine) (q : ∀ g, g.DictOf knd a (merged ps qs) → Heap.SameBut a s.heap g → R () { s with heap := g }) :
    wpAny (model prog w) A (mergeMapping a (.ref b) false) R E s := by
  obtain ⟨oa, ea, epa, a1, a2, a3, a4, a5, a6⟩ := id Da
  obtain ⟨ob, eb, epb, b1, b2, b3, b4, b5, b6⟩ := id Db
  have lenb : eb.size = qs.length := by rw [← b5.length, Array.length_toList]
  unfold mergeMapping
  refine wpAny_bind (wpAny_isInstance Db.typeIs isSubtype_dict_dict ?_)
  dsimp only
  simp only [if_true]
  refine wpAny_bind (wpAny_specialOf Db.typeIs F.slot_dict_iter.lookup (wpAny_bind (wpAny_pure ?_)))
  rw [show (some (Value.builtin "dict.__iter__") == some (Value.builtin "dict.__iter__")) = true from beq_self_eq_true _]
  simp only [hb, Bool.false_eq_true, if_false]
  refine wpAny_bind (wpAny_dictEntries a1 a3 ?_)
  have main : ∀ s0 : Shared, s0 = s → wpAny (model prog w) A (do
      let l ← dictEntries b
      let e0 ← dictEpoch b
      forIn (List.range l.size) PUnit.unit fun i (_ : PUnit) => (do
          let l2 ← dictEntries b
          match l2[i]? with
            | some z => do
              holding [z.key, z.val] (dictPut a z.hash z.key z.val)
              let e2 ← dictEpoch b
              if (e2 != e0) = true then do
                  (unsupported "dict.changed-during-merge" : Sem PUnit)
                  pure (ForInStep.yield PUnit.unit)
                else pure (ForInStep.yield PUnit.unit)
            | _ => do
              (unsupported "dict.changed-during-merge" : Sem PUnit)
              pure (ForInStep.yield PUnit.unit) : Sem (ForInStep PUnit))
      pure ()) R E s0 := by
    intro s0 e0
    rw [e0]
    clear e0 s0
    refine wpAny_bind (wpAny_dictEntries b1 b3 ?_)
    refine wpAny_bind (wpAny_dictEpoch b1 b3 ?_)
    refine wpAny_bind ?_
    rw [List.range_eq_range']
    refine wpAny_forIn_list _ (fun left _ t => ∃ g n, t = { s with heap := g } ∧ left = List.range' n (eb.size - n) ∧ n ≤ eb.size ∧ g.DictOf knd a (merged ps (qs.take n)) ∧ g.get? b = some ob ∧ Heap.SameBut a s.heap g)
      _ ?_ ?_ _ _ ⟨s.heap, 0, rfl, by simp, Nat.zero_le _, by simpa [merged] using Da, b1, Heap.SameBut.refl _ _⟩
    · rintro n0 left _ t ⟨g, n, rfl, hr, hn, Dg, bg, sg⟩
      have lt : n < eb.size := by
        refine Nat.lt_of_le_of_ne hn fun e => ?_
        rw [e, Nat.sub_self] at hr
        cases hr
      have hr2 : n0 :: left = n :: List.range' (n + 1) (eb.size - (n + 1)) := by
        rw [hr, show eb.size - n = (eb.size - (n + 1)) + 1 from by omega, List.range'_succ]
      injection hr2 with r1 r2
      subst r1
      refine wpAny_bind (wpAny_dictEntries bg b3 ?_)
      rw [Array.getElem?_eq_getElem lt]
      have ltq : n0 < qs.length := by omega
      obtain ⟨⟨x, y⟩, hq⟩ : ∃ z, qs[n0]? = some z := ⟨qs[n0]'ltq, List.getElem?_eq_getElem _⟩
      obtain ⟨hk, hv⟩ := b5.get? (e := eb[n0]) (by simp [lt]) hq
      obtain ⟨x2, hk2, hh⟩ := b4 eb[n0] (Array.getElem_mem lt)
      have ex : x2 = x := knd.inj _ _ _ hk2 hk
      subst ex
      have few : (merged ps (qs.take n0)).length ≤ sizeLine := by
        have t1 := merged_length_le ps (qs.take n0)
        rw [List.length_take] at t1
        omega
      show wpAny _ _ (holding [eb[n0].key, eb[n0].val] (dictPut a eb[n0].hash eb[n0].key eb[n0].val) >>= _) _ _ _
      rw [hh, hv]
      refine wpAny_bind (wpAny_holding (put_kv hk Dg few fun g2 D2 s2 => ?_))
      have bg2 : g2.get? b = some ob := (s2.2 b (Ne.symm hab)).trans bg
      refine wpAny_bind (wpAny_dictEpoch bg2 b3 ?_)
      rw [if_neg (by simp)]
      exact wpAny_pure ⟨g2, n0 + 1, rfl, r2, lt, by rw [merged_take_succ ps qs n0 (x2, y) hq]; exact D2, bg2, sg.trans s2⟩
    · rintro _ t ⟨g, n, rfl, hr, hn, Dg, bg, sg⟩
      have en : n = eb.size := by
        refine Nat.le_antisymm hn (Nat.le_of_not_lt fun lt => ?_)
        rw [show eb.size - n = (eb.size - (n + 1)) + 1 from by omega, List.range'_succ] at hr
        cases hr
      refine wpAny_pure (q g ?_ sg)
      rw [en, lenb, List.take_length] at Dg
      exact Dg
  split
  · refine wpAny_bind (wpAny_dictEntries b1 b3 ?_)
    refine wpAny_bind ?_
    rw [← Array.forIn_toList]
    refine wpAny_forIn_list _ (fun left _ t => t = s ∧ ∀ z ∈ left, ∀ c, z.key ≠ .ref c) _ ?_ ?_ _ _ ⟨rfl, not_ref b4⟩
    · rintro z left _ t ⟨rfl, hz⟩
      split
      · rename_i c hc
        exact absurd hc (hz z List.mem_cons_self c)
      · exact wpAny_pure ⟨rfl, fun z2 h2 => hz z2 (List.mem_cons_of_mem _ h2)⟩
    · rintro _ t ⟨ht, _⟩
      exact main t ht
  · exact main _ rfl
end
section
variable {prog : Program} {w : World} {K : Type} [DecidableEq K] {knd : KeyKind prog w K} {A : Around} {E : Value → Shared → Prop} {s : Shared}
theorem display_kv {m k v : Sem Value} {R : Value → Shared → Prop}
    (h : wpAny (model prog w) A m (fun x s1 => ∃ b qs, x = .ref b ∧ s.heap.objs.size ≠ b ∧ (b == sysModules) = false ∧ s1.heap.DictOf knd s.heap.objs.size [] ∧ s1.heap.DictOf knd b qs ∧ qs.length < sizeLine ∧
      ∀ g, g.DictOf knd s.heap.objs.size qs → Heap.SameBut s.heap.objs.size s1.heap g →
        wpAny (model prog w) A k (fun y s2 => wpAny (model prog w) A v (fun z s3 => s.heap.objs.size ≠ g.objs.size ∧ (g.objs.size == sysModules) = false ∧ s3.heap.DictOf knd g.objs.size [] ∧ ∃ rs, s3.heap.DictOf knd s.heap.objs.size rs ∧ rs.length < sizeLine ∧ ∃ x0, knd.is x0 y = true ∧
          ∀ g2 g3, g2.DictOf knd g.objs.size [(x0, z)] → Heap.SameBut g.objs.size s3.heap g2 → g3.DictOf knd s.heap.objs.size (stored rs x0 z) → Heap.SameBut s.heap.objs.size g2 g3 →
            R (.ref s.heap.objs.size) { s3 with heap := g3, toks := s3.toks + 1 }) E s2) E { s1 with heap := g.push { cls := .type "dict", data := .dict #[] } }) E
      { s with heap := s.heap.push { cls := .type "dict", data := .dict #[] } }) :
    wpAny (model prog w) A (dictDisplay [(none, m), (some k, v)]) R E s := by
  unfold dictDisplay
  dsimp only
  simp only [List.forIn_cons, List.forIn_nil, List.isEmpty_nil, if_true, pure_bind, bind_pure_comp, bind_assoc]
  refine wpAny_bind (wpAny_alloc ?_)
  refine wpAny_bind (wpAny_holding (wpAny_mono h (fun x s1 h1 => ?_) fun _ _ e => e))
  obtain ⟨b, qs, rfl, hb, hsm, d0, db, hl, h1⟩ := h1
  refine wpAny_bind (wpAny_map (wpAny_onRaise (wpAny_tryCatch (wpAny_onRaise (wpAny_holding (merge_kv (knd := knd) hb hsm d0 db ?_ fun g dg sg => ?_))))))
  · rw [List.length_nil]; omega
  have nd : (qs.map (·.1)).Nodup := let ⟨_, _, _, _, _, _, _, _, hn⟩ := db; hn
  rw [merged_nil_of_nodup qs nd] at dg
  have h2 := h1 g dg sg
  clear h1
  dsimp only
  simp only [List.nil_append, List.length_cons, List.length_nil, show ((0 + 1 : Nat) == 17) = false from rfl, Bool.false_eq_true, if_false, pure_bind, List.isEmpty_cons]
  refine wpAny_bind (wpAny_bind (wpAny_holding (wpAny_subDict (knd := knd) (show 1 ≤ 15 from by decide) (evalPairs_cons (wpAny_mono h2 (fun y s2 h3 => wpAny_mono h3 (fun z s3 h4 => evalPairs_nil ?_) fun _ _ e => e) fun _ _ e => e)))))
  obtain ⟨ne, lo, d3, rs, p3, hr, x0, hx, fin⟩ := h4
  refine ⟨[(x0, z)], ⟨hx, rfl, True.intro⟩, d3, fun g2 d2 s2' => wpAny_map (wpAny_onRaise (wpAny_holding (merge_kv (knd := knd) (ps := rs) (qs := [(x0, z)]) ne lo (p3.sameBut s2' ne) d2 ?_ fun g3 d3' s3' => wpAny_pure (fin g2 g3 d2 s2' d3' s3'))))⟩
  rw [List.length_singleton]
  omega
end
section
variable {X : Cx}
/-- {**d, k: v}: p the new dict, q the one of the pair behind it -/
def tDispD (td tk tv : TE) : TE := fun σ H Q => ∀ p, H p = none → td σ (upd H p (.dK [])) fun x H1 => ∃ a kvs, x = .ref a ∧ H1 a = some (.dK kvs) ∧ a ≠ p ∧ H1 p = some (.dK []) ∧ kvs.length < sizeLine ∧
  ∀ q, (upd H1 p (.dK kvs)) q = none → tk σ (upd (upd H1 p (.dK kvs)) q (.dK [])) fun y H2 => tv σ H2 fun z H3 => H3 p = some (.dK kvs) ∧ H3 q = some (.dK []) ∧ ∃ k, y = kV k ∧ Q (.ref p) (upd (upd H3 q (.dK [(k, z)])) p (.dK (putK kvs k z)))
theorem pe_dispD {d k v : Expr} {pos : Pos} {td tk tv : TE} (hd : PE X d td) (hk : PE X k tk) (hv : PE X v tv) : PE X (.Dict [none, some k] [d, v] pos) (tDispD td tk tv) := by
  refine ⟨fun pins s σ H Q I h => ?_⟩
  have hn := I.hok.fresh (Nat.le_refl s.heap.objs.size)
  have I1 := I.laid (a := s.heap.objs.size) (o := .dK []) (h' := s.heap.push { cls := .type "dict", data := .dict #[] }) (t' := s.toks) (fun _ _ q => Heap.get?_push_of_some _ q) (Nat.le_refl _) (dk_empty s.heap I.big)
  rw [arm_eval_Dict]
  refine wpAny_bind (wpAny_standAt ?_)
  show wpAny _ _ (dictDisplay [(none, do let x ← eval d X.env; standAt pos; pure x), (some (eval k X.env), do let x ← eval v X.env; standAt pos; pure x)]) _ _ _
  refine display_kv (knd := mixKind X.prog X.w) (wpAny_bind (thn (hd.run pins _ σ _ _ I1 (h _ hn)) fun u s1 ⟨x, H1, I2, rel, a, kvs, ex, ea, hap, ep, hl, q⟩ => wpAny_bind (wpAny_standAt (wpAny_pure ?_))))
  subst ex
  cases rel
  obtain ⟨z1, lo, vs, r1, da⟩ := dk_of I2.hok ea
  obtain ⟨z2, lo2, vs2, r2, dp⟩ := dk_of I2.hok ep
  cases r2
  refine ⟨a, vs, rfl, Ne.symm hap, lo, dp, da, by rw [← r1.length]; exact hl, fun g dg sg => ?_⟩
  have hz : kvs.length ≤ sizeLine := Nat.le_of_lt hl
  have stays : ∀ {g : Heap} {b : Addr} {ps : List (Key × Value)}, g.DictOf (mixKind X.prog X.w) b ps → ∃ q, g.get? b = some q := fun t => let ⟨q, _, _, hq, _⟩ := t; ⟨q, hq⟩
  have I3 : Inv X pins σ (upd H1 s.heap.objs.size (.dK kvs)) { s1 with heap := g, toks := s1.toks } := d_write I2 (by rw [ep]; exact True.intro) sg (stays dg) (dk_new hz lo2 r1 dg)
  have hn2 := I3.hok.fresh (Nat.le_refl g.objs.size)
  have I4 := I3.laid (a := g.objs.size) (o := .dK []) (h' := g.push { cls := .type "dict", data := .dict #[] }) (t' := s1.toks) (fun _ _ q => Heap.get?_push_of_some _ q) (Nat.le_refl _) (dk_empty g I3.big)
  refine thn (hk.run pins _ σ _ _ I4 (q _ hn2)) fun y s2 ⟨y', H2, I5, ry, q2⟩ => wpAny_bind (thn (hv.run pins s2 σ H2 _ I5 q2) fun w' s3 ⟨z', H3, I6, rz, hp, hq, k0, ek, q3⟩ => wpAny_bind (wpAny_standAt (wpAny_pure ?_)))
  subst ek
  obtain ⟨z4, lo4, vs4, r4, d4⟩ := dk_of I6.hok hq
  cases r4
  obtain ⟨z5, lo5, vs5, r5, d5⟩ := dk_of I6.hok hp
  have ne : s.heap.objs.size ≠ g.objs.size := fun e => by
    rw [← e, upd_same] at hn2
    cases hn2
  have hz5 : vs5.length < sizeLine := by rw [← r5.length]; exact hl
  refine ⟨ne, lo4, d4, vs5, d5, hz5, k0, kV_is ry, fun g2 g3 e2 t2 e3 t3 => ?_⟩
  have I7 : Inv X pins σ (upd H3 g.objs.size (.dK [(k0, z')])) { s3 with heap := g2, toks := s3.toks } :=
    d_write I6 (by rw [hq]; exact True.intro) t2 (stays e2) (dk_new (by rw [List.length_singleton, sizeLine_eq]; omega) lo4 (.cons ⟨rfl, rz⟩ .nil) e2)
  have I8 : Inv X pins σ (upd (upd H3 g.objs.size (.dK [(k0, z')])) s.heap.objs.size (.dK (putK kvs k0 z'))) { s3 with heap := g3, toks := s3.toks + 1 } := by
    have len := length_putK kvs k0 z'
    have t := d_write (t' := s3.toks + 1) I7 (by rw [upd_ne ne, hp]; exact True.intro) t3 (stays e3) (dk_new (by omega) lo5 (r5.put k0 rz) e3)
    exact t
  exact ⟨.ref s.heap.objs.size, _, I8, rfl, q3⟩
end
section
open PySem.W
variable {prog : Program} {w : World} {A : Around} {E : Value → Shared → Prop} {s : Shared} {T : String} {r d : Addr} {n : Nat} {P : Nat → Value → Prop} {OK : Heap → Prop}
/-- what a source of keys gives, gathered -/
theorem gather_src {R : List Value → Shared → Prop} (C : KdlSrc prog w T r d n P OK) (hh : A.handled = none) (ok : OK s.heap) (hn : n ≤ sizeLine)
    (q : ∀ (g : Heap) (tk : Nat) (got : Array Value), (∀ b o, s.heap.get? b = some o → g.get? b = some o) → ItemsOf P got n → R got.toList { s with heap := g, toks := tk }) : wpAny (model prog w) A (collect (.ref r)) R E s := by
  unfold collect
  refine wpAny_bind (wpAny_runValue (codeAny_builtin F.entry_proto_collect ?_))
  rw [Around.under_plainId F.plain_proto_collect _]
  show wpAny _ A.in1 (newList [] >>= fun l => again (.builtin "list.__iadd__" ⟨[l, .ref r], []⟩)) _ _ s
  refine wpAny_bind (wpAny_newObj_type (wpAny_pure ⟨plainId_quiet F.plain_list_iadd _, codeAny_builtin F.entry_list_iadd ?_⟩))
  rw [Around.under_plainId F.plain_list_iadd _]
  show wpAny _ A.in1 (Builtin.List.listExtendWith (.ref s.heap.objs.size) (.ref r) (.ref s.heap.objs.size)) _ _ _
  have lt := C.there _ ok
  have at0 : (s.heap.push { cls := .type "list", data := .seq ([] : List Value).toArray }).get? s.heap.objs.size = some { cls := .type "list", data := .seq #[] 0 } := Heap.get?_push_size _ rfl
  refine wpAny_mono (kdl_extend (A := A) (s := { s with heap := s.heap.push { cls := .type "list", data := .seq ([] : List Value).toArray } })
    (R := fun z t => z = .ok (.ret (.ref s.heap.objs.size)) ∧ ∃ (g : Heap) (tk : Nat) (got : Array Value) (c : Nat), t = { s with heap := g, toks := tk } ∧ (∀ b o, s.heap.get? b = some o → g.get? b = some o) ∧
      g.get? s.heap.objs.size = some { cls := .type "list", dict := none, data := .seq got c, slots := #[] } ∧ ItemsOf P got n)
    C hh (C.keep _ _ ok fun b _ o e => Heap.get?_push_of_some _ e) s.heap.objs.size (Nat.ne_of_gt lt.1) (Nat.ne_of_gt lt.2) _ 0 at0
    (fun g tk got c hk e hi => ⟨rfl, g, tk, got, c, rfl, fun b o u => hk b o (Nat.ne_of_lt (Heap.lt_size u)) (Heap.get?_push_of_some _ u), e, hi⟩) hn) (fun fin t h => ?_) fun e t h => ?_
  · cases fin with
    | done f =>
      obtain ⟨e, g, tk, got, c, rfl, hk, hS, hi⟩ := h
      cases e
      show wpAny _ A (load s.heap.objs.size >>= _) _ _ _
      exact wpAny_bind (wpAny_load hS (wpAny_pure (q g tk got hk hi)))
    | again c' =>
      refine ⟨h.1, codeAny_mono h.2 fun z t' h' => ?_⟩
      obtain ⟨rfl, g, tk, got, c, rfl, hk, hS, hi⟩ := h'
      show wpAny _ A (load s.heap.objs.size >>= _) _ _ _
      exact wpAny_bind (wpAny_load hS (wpAny_pure (q g tk got hk hi)))
  · exact absurd h.1 (by simp)
theorem new_tup_src {R : Value → Shared → Prop} (C : KdlSrc prog w T r d n P OK) (hh : A.handled = none) (ok : OK s.heap) (hn : n ≤ sizeLine)
    (q : ∀ (g : Heap) (tk : Nat) (got : Array Value), (∀ b o, s.heap.get? b = some o → g.get? b = some o) → ItemsOf P got n → R (.ref g.objs.size) { s with heap := g.push { cls := .type "tuple", data := .seq got }, toks := tk }) :
    codeAny (model prog w) A (.call (.builtin "tuple.__new__") ⟨[.type "tuple", .ref r], []⟩) (wants R E) s := by
  refine codeAny_of_tree ?_
  show wpAny _ A.in1 (do checkBuiltinCall "tuple.__new__" ⟨[.type "tuple", .ref r], []⟩; again (.builtin "tuple.__new__" ⟨[.type "tuple", .ref r], []⟩)) _ _ s
  refine wpAny_bind (wpAny_of_eq (F.newCall_tuple_1 _) (wpAny_pure ⟨plainId_quiet F.plain_tuple_new _, codeAny_builtin F.entry_tuple_new ?_⟩))
  rw [Around.under_plainId F.plain_tuple_new _]
  have t1 := sub_tuple_self
  have t2 := init_tuple_lookup
  have t3 := madeHere_tuple
  have t4 := C.type s ok
  have t5 : A.in1.handled = none := hh
  have t6 := C.notTuple
  have t7 := C.notList
  wp_walk using wpAny_typeOf t4, gather_src (A := A.in1) C t5 ok hn
  intro g tk got hk hi
  show wpAny _ _ (Builtin.Tuple.tupleExact got.toList.toArray >>= fun v => ret v) _ _ _
  have e : got.toList.toArray = got := by simp
  unfold Builtin.Tuple.tupleExact
  rw [e]
  exact wpAny_bind (wpAny_newObj_type (wpAny_pure (q g tk got hk hi)) (by show got.size ≤ sizeLine; rw [hi.1]; exact hn))
theorem call_tup_src {R : Value → Shared → Prop} (C : KdlSrc prog w T r d n P OK) (hh : A.handled = none) (ok : OK s.heap) (hn : n ≤ sizeLine)
    (q : ∀ (g : Heap) (tk : Nat) (got : Array Value), (∀ b o, s.heap.get? b = some o → g.get? b = some o) → ItemsOf P got n → R (.ref g.objs.size) { s with heap := g.push { cls := .type "tuple", data := .seq got }, toks := tk }) :
    wpAny (model prog w) A (call (.type "tuple") [.ref r]) R E s := by
  refine callType_codes (Q₁ := fun u t => t.TypeIs u "tuple" ∧ R u t) F.called_tuple (F.typeCall_tuple_1 _) F.entry_object_init
    (new_tup_src (A := A.in1) C hh ok hn fun g tk got hk hi => ⟨⟨_, Heap.get?_push_size _ rfl, rfl⟩, q g tk got hk hi⟩) fun u t h => ?_
  exact ⟨h.1, F.args_object_init_2 u _, object_init_meets F.called_tuple.init.lookup F.called_tuple.made (by decide) prog w A.in1 _ t ⟨h.1, rfl, h.2⟩⟩
end
section
variable {X : Cx}
/-- tuple(d): a dict's keys -/
theorem call_tupD (hc : X.calm = true) : CallR X (.type "tuple") (fun xs H Q => ∃ (a : Addr) (kvs : List (Key × V)), xs = [.ref a] ∧ Rd H a (.dK kvs) ∧ ∀ p, H p = none → Q (.ref p) (upd H p (.tup (kvs.map fun kv => kV kv.1)))) := by
  intro pins s σ H xs us Q I r q
  obtain ⟨a, kvs, ex, hd, q⟩ := q
  subst ex
  obtain ⟨u, eu, rx⟩ := vals1 r
  subst eu
  cases rx
  obtain ⟨z, lo, vs, rel, dd⟩ := dk_rd I.hok hd
  obtain ⟨ep, hat⟩ := dd.dictAt
  have same : (kvs.map fun kv => kV kv.1) = vs.map fun p => kV p.1 := by
    have t := congrArg (List.map kV) rel.keys
    rw [List.map_map, List.map_map] at t
    exact t
  refine call_tup_src (PySem.W.kdl_dict (knd := mixKind X.prog X.w) (kvs := vs) (ep := ep) lo) (I.ok.hd hc) hat (by rw [← rel.length]; exact z) fun g tk got hk hi => ?_
  have rv : Vals (vs.map fun p => kV p.1) got.toList := keys_at (by rw [Array.length_toList]; exact hi.1) fun j v t => hi.2 j v (by rw [← Array.getElem?_toList]; exact t)
  have I1 : Inv X pins σ H { s with heap := g, toks := tk } := I.kept (t' := tk) hk
  have I2 : Inv X pins σ (upd H g.objs.size (.tup (kvs.map fun kv => kV kv.1))) { s with heap := g.push { cls := .type "tuple", data := .seq got }, toks := tk } :=
    I1.laid (t' := tk) (fun b o e => Heap.get?_push_of_some _ e) (Nat.le_refl _) (show ObjOk X.prog X.w _ _ _ (.tup (kvs.map fun kv => kV kv.1)) from ⟨by rw [List.length_map]; exact z, got.toList, by rw [same]; exact rv, by
      have e : got.toList.toArray = got := by simp
      rw [e]
      exact IsTup.new _ _⟩)
  exact ⟨.ref g.objs.size, _, I2, rfl, q _ (I1.hok.fresh (Nat.le_refl _))⟩
end
end My

/-! My own rules: o.m(k = v, ..) where the method may raise; a comprehension over d.items(). -/
namespace My
open PySem PySem.Spec PyProof.Rows L2
section
variable {X : Cx} {CX : CXT} {k : Nat} {C f : Addr} {fd : FuncData} {ps : List Str} {sp : Sp} {E : L2.St → XK}
variable {ks : List Str} {g : List Value → List Value → List Value} {gV : List V → List V → List V} {o : Expr} {m : Str} {pos apos : Pos} {kws : List Keyword} {ta : TE} {tk : TA}
/-- o.m(k = v, ..), nothing by place, what is let out wished for at the caller's slots -/
def tMethKE (C : Addr) (m : Str) (sp : Sp) (gV : List V → List V → List V) (E : L2.St → XK) (ta : TE) (tk : TA) : TE := fun σ H Q => ta σ H fun x H1 => ∃ a dx fs, x = .ref a ∧ H1 a = some (.ins C dx fs) ∧ fs.lookup m = none ∧ tk σ H1 fun zs H2 => sp (gV [x] zs) H2 Q (E σ)
theorem pe_methKE {pl : Sem Bool} (he : PE X o ta) (c : Cls X.K C) (hm : Meth X.K C m f) (F : FnOk X.prog X.w X.K X.mg X.base CX k f fd ps sp) (hr : Room k X.A) (hb : KBinds X.K fd ps ks g gV) (hx : ∀ σ, PassesAt CX X σ (E σ)) (hkw : PK X kws tk)
    (hall : (backToKw pos (keywordEach kws X.env)).all (·.1.isSome) = true := by rfl) (hks : (backToKw pos (keywordEach kws X.env)).filterMap (·.1) = ks := by rfl)
    (hpl : ((backTo pos (starEach [] X.env)).any (·.1) || (backToKw pos (keywordEach kws X.env)).any (·.1.isNone)) = false := by rfl)
    (ht : eval (.Call (.Attribute o m apos) [] kws pos) X.env = (do
      let ov ← eval o X.env
      standAt apos.atName
      let (f, first) ← holding [ov] (getMethod ov m pl)
      callWith pos f first (backTo pos (starEach [] X.env)) (backToKw pos (keywordEach kws X.env))) := by rfl) :
    PE X (.Call (.Attribute o m apos) [] kws pos) (tMethKE C m sp gV E ta tk) := by
  refine ⟨fun pins s σ H Q I h => ?_⟩
  refine PySem.W.methodCall_KW (pl := pl) (thn (he.run pins s σ H _ I h) fun u s1 ⟨x, H1, I1, rx, a, dx, fs, ex, ea, l, q⟩ => ?_) ht
  subst ex
  obtain rfl : u = Value.ref a := rx
  refine getmeth_ok I1 ea c hm l ?_
  refine PySem.W.callWith_KW0 (first := [.ref a]) (h₀ := X.base) I.ok.mod.kin hm.kp hall (thn (hkw.run pos pins s1 σ H1 _ I1 q) fun ws s2 ⟨zs, H2, I2, rz, q2⟩ => ⟨I2.kIn, ?_⟩) hpl
  rw [hks]
  exact run_fnkS (us := [.ref a]) (vs := [.ref a]) F hr hb (hx σ) I2 (.cons rfl .nil) rz q2
end
/-- a dict's comprehension over the items of a dict that is locked -/
theorem dc_items {d : Addr} {o : Obj} {kvs : List (Key × V)} {g : TG} {tt : TT} {tk tv : TE} {vs : List Nat} {σ : L2.St} {H1 : Hp} {D : Addr} {Qd : Hp → Prop} (Pv : Nat → Hp → Prop) (h0 : Pv 0 (upd H1 D (.dK []))) (hl : ∀ i H, i ≤ kvs.length → Pv i H → H d = some (.frz o (.dK kvs)))
    (hs : ∀ i k v T H, kvs[i]? = some (k, v) → Pv i H → H T = none → g (.ref T) (wipe σ vs) (upd H T (.tup [kV k, v])) fun σ2 H2 => wipe σ2 vs = wipe σ vs ∧ tt σ2 H2 fun b H3 =>
      if b = true then tk σ2 H3 fun y H4 => tv σ2 H4 fun z H5 => ∃ kvs k, y = kV k ∧ H5 D = some (.dK kvs) ∧ kvs.length < sizeLine ∧ Pv (i + 1) (upd H5 D (.dK (putK kvs k z))) else Pv (i + 1) H3) (hd : ∀ H, Pv kvs.length H → Qd H) :
    ∃ W : Nat → Nat → Hp → Prop, (∃ m, W 0 m (upd H1 D (.dK []))) ∧ ∀ i m H, W i m H →
      ((Iti d o kvs).stop i H ∧ Qd H) ∨ ((Iti d o kvs).go i H ∧ ∃ Nx : Hp → Prop, (∀ H', Nx H' → ∃ m', m' < m ∧ W (i + 1) m' H') ∧ ∀ x H', (Iti d o kvs).yld i H x H' → g x (wipe σ vs) H' fun σ2 H2 => wipe σ2 vs = wipe σ vs ∧ tt σ2 H2 fun b H3 =>
        if b = true then tk σ2 H3 fun y H4 => tv σ2 H4 fun z H5 => ∃ kvs k, y = kV k ∧ H5 D = some (.dK kvs) ∧ kvs.length < sizeLine ∧ Nx (upd H5 D (.dK (putK kvs k z))) else Nx H3) := by
  refine ⟨fun i m H => m = kvs.length - i ∧ i ≤ kvs.length ∧ Pv i H, ⟨kvs.length, by simp, Nat.zero_le _, h0⟩, ?_⟩
  rintro i m H ⟨rfl, hi, p⟩
  have q := hl i H hi p
  rcases Nat.lt_or_ge i kvs.length with lt | ge
  · refine .inr ⟨⟨q, lt⟩, Pv (i + 1), fun H' p' => ⟨kvs.length - (i + 1), by omega, rfl, lt, p'⟩, ?_⟩
    rintro x H' ⟨T, k, v, e, rfl, nT, rfl⟩
    exact hs i k v T H e p nT
  · have e : i = kvs.length := by omega
    subst e
    exact .inl ⟨⟨q, Nat.le_refl _⟩, hd H p⟩
end My

/-! My own rules: raise X(), X an own exception class without an own __init__; o.m() that may raise. -/
namespace My
open PySem PySem.Spec PyProof.Rows L2
section
variable {X : Cx}
theorem pmk_own0 {C : Addr} {bmB : List Value} {B newId initId : String} {x : Str} {p pos : Pos} (F : ExcBaseFacts B newId initId bmB) (q : PySem.W.excIn X.K C bmB newId = true) (gC : X.mg x = some (.ref C)) (kC : PySem.W.keepIn X.K (.ref C) = true) (r : Raises X (.ref C)) (hg : Gl X x) (hdb : (x == ("__debug__" : Str)) = false := by decide) :
    PMk X (.Call (.Name x p) [] [] pos) (fun _ H Q => Q (.ref C) none H) := by
  intro pins s σ H Q I h
  refine wpAny_Call_Name_kw (ld_glob I hg gC ?_ hdb)
  refine PySem.W.callWith_KW0 (h₀ := X.base) I.ok.mod.kin kC (by rfl) (thn (pk_nil.run pos pins s σ H (fun vs H1 => vs = [] ∧ H1 = H) I ⟨rfl, rfl⟩) fun ws s2 ⟨zs, H2, I2, rz, ez, eH⟩ => ⟨I2.kIn, ?_⟩) (by rfl)
  subst eH
  show wpAny _ _ (call (.ref C) []) _ _ _
  obtain ⟨bm, N, nm, qn, bs, hdct, sn, sub, ab, col, dd, k0, k1, k2, k3, k5, mN, hC, hN, hni, T⟩ := exc_obj I2.kIn q
  exact wpAny_call_exc_subT F T hC hN hni (fun h' e hm => mk_of I2 hm r h (I2.hok.gone hm.new)) (Nat.zero_le _)
end
/-- the receiver alone -/
def kFst {α : Type} (us _ : List α) : List α := us
theorem kbinds_alone {K : PySem.W.Frag} {fd : FuncData} {p1 : Str} (h : ∀ (s : Shared) (u : Value), BindsTo s fd ⟨[u], []⟩ [(p1, u)]) : KBinds K fd [p1] [] kFst kFst where
  to := fun s us ws _ hl => match us, hl with
    | [u], _ => h s u
  rel := fun r _ => r
end My

/-! My own rules: dict comprehensions over a list, list comprehensions over d.items(). -/
namespace My
open PySem PySem.Spec PyProof.Rows L2
/-- {k: v for .. in xs}, xs a list that stays -/
theorem dc_list {K : PySem.W.Frag} {a : Addr} {xs : List V} {g : TG} {tt : TT} {tk tv : TE} {vs : List Nat} {σ : L2.St} {H1 : Hp} {D : Addr} {Qd : Hp → Prop} (Pv : Nat → Hp → Prop) (h0 : Pv 0 (upd H1 D (.dK []))) (hl : ∀ i H, i ≤ xs.length → Pv i H → SqL K H a xs)
    (hs : ∀ i x H, xs[i]? = some x → Pv i H → g x (wipe σ vs) H fun σ2 H2 => wipe σ2 vs = wipe σ vs ∧ tt σ2 H2 fun b H3 =>
      if b = true then tk σ2 H3 fun y H4 => tv σ2 H4 fun z H5 => ∃ kvs k, y = kV k ∧ H5 D = some (.dK kvs) ∧ kvs.length < sizeLine ∧ Pv (i + 1) (upd H5 D (.dK (putK kvs k z))) else Pv (i + 1) H3) (hd : ∀ H, Pv xs.length H → Qd H) :
    ∃ W : Nat → Nat → Hp → Prop, (∃ m, W 0 m (upd H1 D (.dK []))) ∧ ∀ i m H, W i m H →
      ((Itl K a).stop i H ∧ Qd H) ∨ ((Itl K a).go i H ∧ ∃ Nx : Hp → Prop, (∀ H', Nx H' → ∃ m', m' < m ∧ W (i + 1) m' H') ∧ ∀ x H', (Itl K a).yld i H x H' → g x (wipe σ vs) H' fun σ2 H2 => wipe σ2 vs = wipe σ vs ∧ tt σ2 H2 fun b H3 =>
        if b = true then tk σ2 H3 fun y H4 => tv σ2 H4 fun z H5 => ∃ kvs k, y = kV k ∧ H5 D = some (.dK kvs) ∧ kvs.length < sizeLine ∧ Nx (upd H5 D (.dK (putK kvs k z))) else Nx H3) := by
  refine ⟨fun i m H => m = xs.length - i ∧ i ≤ xs.length ∧ Pv i H, ⟨xs.length, by simp, Nat.zero_le _, h0⟩, ?_⟩
  rintro i m H ⟨rfl, hi, p⟩
  have q := hl i H hi p
  rcases Nat.lt_or_ge i xs.length with lt | ge
  · refine .inr ⟨⟨xs, xs[i], q, by simp [lt]⟩, Pv (i + 1), fun H' p' => ⟨xs.length - (i + 1), by omega, rfl, lt, p'⟩, fun x H' y => ?_⟩
    obtain ⟨e, y⟩ := y
    subst e
    exact hs i x _ (y xs q) p
  · have e : i = xs.length := by omega
    subst e
    exact .inl ⟨⟨xs, q, Nat.le_refl _⟩, hd H p⟩
/-- [e for k, v in d.items()], d locked -/
theorem lc_items {d : Addr} {o : Obj} {kvs : List (Key × V)} {g : TG} {tt : TT} {te : TE} {vs : List Nat} {σ : L2.St} {H1 : Hp} {D : Addr} {Qd : Hp → Prop} (Pv : Nat → Hp → Prop) (h0 : Pv 0 (upd H1 D (.lst []))) (hl : ∀ i H, i ≤ kvs.length → Pv i H → H d = some (.frz o (.dK kvs)))
    (hs : ∀ i k v T H, kvs[i]? = some (k, v) → Pv i H → H T = none → g (.ref T) (wipe σ vs) (upd H T (.tup [kV k, v])) fun σ2 H2 => wipe σ2 vs = wipe σ vs ∧ tt σ2 H2 fun b H3 =>
      if b = true then te σ2 H3 fun y H4 => ∃ acc, H4 D = some (.lst acc) ∧ acc.length < sizeLine ∧ Pv (i + 1) (upd H4 D (.lst (acc ++ [y]))) else Pv (i + 1) H3) (hd : ∀ H, Pv kvs.length H → Qd H) :
    ∃ W : Nat → Nat → Hp → Prop, (∃ m, W 0 m (upd H1 D (.lst []))) ∧ ∀ i m H, W i m H →
      ((Iti d o kvs).stop i H ∧ Qd H) ∨ ((Iti d o kvs).go i H ∧ ∃ Nx : Hp → Prop, (∀ H', Nx H' → ∃ m', m' < m ∧ W (i + 1) m' H') ∧ ∀ x H', (Iti d o kvs).yld i H x H' → g x (wipe σ vs) H' fun σ2 H2 => wipe σ2 vs = wipe σ vs ∧ tt σ2 H2 fun b H3 =>
        if b = true then te σ2 H3 fun y H4 => ∃ acc, H4 D = some (.lst acc) ∧ acc.length < sizeLine ∧ Nx (upd H4 D (.lst (acc ++ [y]))) else Nx H3) := by
  refine ⟨fun i m H => m = kvs.length - i ∧ i ≤ kvs.length ∧ Pv i H, ⟨kvs.length, by simp, Nat.zero_le _, h0⟩, ?_⟩
  rintro i m H ⟨rfl, hi, p⟩
  have q := hl i H hi p
  rcases Nat.lt_or_ge i kvs.length with lt | ge
  · refine .inr ⟨⟨q, lt⟩, Pv (i + 1), fun H' p' => ⟨kvs.length - (i + 1), by omega, rfl, lt, p'⟩, ?_⟩
    rintro x H' ⟨T, k, v, e, rfl, nT, rfl⟩
    exact hs i k v T H e p nT
  · have e : i = kvs.length := by omega
    subst e
    exact .inl ⟨⟨q, Nat.le_refl _⟩, hd H p⟩
end My

set_option maxHeartbeats 4000000
/-! My own rules: set(xs) of a list of texts, sorted of such a set. -/
namespace My
open PySem PySem.Spec PyProof.Rows L2
/-- the text of an entry -/
def txOf (e : Int × Value) : Str := match e.2 with | .str k _ => k | _ => Str.empty
def TxE (P : Program) (w : World) (e : Int × Value) : Prop := ∃ k tk, e.2 = Value.str k tk ∧ e.1 = (PySem.strKind P w).hash k
/-- the set at a: its members are the texts ks, some of them maybe twice there -/
def TxSet (P : Program) (w : World) (g : Heap) (a : Addr) (ks : List Str) : Prop :=
  ∃ ob rows ep tb, g.get? a = some ob ∧ ob.ExactSet ∧ ob.data = .set rows ep tb ∧ (∀ e ∈ rows.toList, TxE P w e) ∧ (rows.toList.map txOf).Nodup ∧ (∀ k, k ∈ rows.toList.map txOf ↔ k ∈ ks) ∧
    rows.size ≤ ks.length ∧ rows.size < scanBound ∧ tb.fits rows.size = true ∧ Ris tb.place.toList ∧ (w.params.followText "set-order" = true ∨ tb.led = true)
section
variable {P : Program} {w : World} {g g' : Heap} {a : Addr} {ks : List Str}
theorem TxSet.keep (R : TxSet P w g a ks) (k : ∀ o, g.get? a = some o → g'.get? a = some o) : TxSet P w g' a ks := by
  obtain ⟨ob, rows, ep, tb, ho, rest⟩ := R
  exact ⟨ob, rows, ep, tb, k ob ho, rest⟩
theorem tx_elems {l : List (Int × Value)} (g : ∀ e ∈ l, TxE P w e) : ElemsOf (PySem.strKind P w) l := fun e he => by
  obtain ⟨k, tk, h1, h2⟩ := g e he
  exact ⟨⟨k, by rw [h1]; exact strKind_is P w k tk, h2⟩, by rw [h1] <;> rfl⟩
theorem tx_is {e : Int × Value} (g : TxE P w e) (k : Str) : (PySem.strKind P w).is k e.2 = true ↔ txOf e = k := by
  obtain ⟨k0, tk, h1, _⟩ := g
  unfold txOf
  rw [h1, KeyKind.is_eq_decide (strKind_is P w k0 tk) k]
  simp only [decide_eq_true_eq]
  exact eq_comm
theorem tx_mem {l : List (Int × Value)} (g : ∀ e ∈ l, TxE P w e) (k : Str) : k ∈ l.map txOf ↔ ∃ e ∈ l, (PySem.strKind P w).is k e.2 = true := by
  rw [List.mem_map]
  constructor
  · rintro ⟨e, he, q⟩
    exact ⟨e, he, (tx_is (g e he) k).mpr q⟩
  · rintro ⟨e, he, q⟩
    exact ⟨e, he, (tx_is (g e he) k).mp q⟩
end
section
variable {P : Program} {w : World} {A : Around} {E : Value → Shared → Prop} {s : Shared} {a : Addr} {ks : List Str}
theorem tx_tail {gw : Bool → Sem Unit} (hgw : ∀ (b : Bool) (s₁ : Shared) (Q' : Unit → Shared → Prop), Q' () s₁ → wpAny (model P w) A (gw b) Q' E s₁)
    {ob : Obj} {rows : Array (Int × Value)} {ep : Nat} {tb : SetTable} (ho : s.heap.get? a = some ob) (hx : ob.ExactSet) (hd : ob.data = .set rows ep tb)
    {r1 : Array (Int × Value)} {t2 : SetTable} {ks' : List Str} (g1 : ∀ e ∈ r1.toList, TxE P w e) (nd1 : (r1.toList.map txOf).Nodup) (m1 : ∀ k, k ∈ r1.toList.map txOf ↔ k ∈ ks') (le1 : r1.size ≤ ks'.length)
    (hb1 : r1.size < scanBound) (hf2 : t2.fits r1.size = true) (hr : Ris t2.place.toList) (hl : w.params.followText "set-order" = true ∨ t2.led = true) {dm : Bool} {R : Option Bool → Shared → Prop}
    (hR : ∀ g', Heap.SameBut a s.heap g' → TxSet P w g' a ks' → R (some true) { s with heap := g' }) :
    wpAny (model P w) A (do
        storeSet a r1 t2
        if (!dm && t2.tooFull) = true then do
            gw (relayAll t2 r1 (SetTable.grown r1.size)).2.2
            storeSet a (relayAll t2 r1 (SetTable.grown r1.size)).1 (relayAll t2 r1 (SetTable.grown r1.size)).2.1
            pure (some true)
          else pure (some true)) R E s := by
  refine wpAny_bind (wpAny_storeSet_of ho hd ?_ (fits_of_scanBound hb1))
  have ho1 := store_at (es' := r1) (t' := t2) ho hd
  have sb1 := Heap.SameBut.update s.heap a (Obj.putSet r1 t2)
  split
  · have pm := relayAll_perm t2 r1 (SetTable.grown r1.size)
    have q1 := relayAll_fits t2 r1 (SetTable.grown r1.size)
    have q2 := relayAll_ris t2 r1 (SetTable.grown r1.size)
    have q3 := relayAll_led t2 r1 (SetTable.grown r1.size)
    generalize relayAll t2 r1 (SetTable.grown r1.size) = Z at pm q1 q2 q3 ⊢
    obtain ⟨r2, t3, gave⟩ := Z
    dsimp only at pm q1 q2 q3 ⊢
    have hsz : r2.size = r1.size := by rw [← Array.length_toList, pm.length_eq, Array.length_toList]
    have hb2 : r2.size < scanBound := hsz ▸ hb1
    refine wpAny_bind (hgw _ _ _ ?_)
    refine wpAny_bind (wpAny_storeSet_of ho1 rfl ?_ (fits_of_scanBound hb2))
    have ho2 := store_at (es' := r2) (t' := t3) ho1 rfl
    refine wpAny_pure (hR _ (sb1.trans (Heap.SameBut.update _ a _)) ?_)
    exact ⟨_, r2, _, t3, ho2, hx, rfl, fun e he => g1 e (pm.mem_iff.mp he), (pm.map txOf).nodup_iff.mpr nd1, fun k => (pm.map txOf).mem_iff.trans (m1 k), by rw [hsz]; exact le1, hb2, q1, q2,
      hl.imp id fun z => by rw [q3]; exact z⟩
  · exact wpAny_pure (hR _ sb1 ⟨_, r1, _, t2, ho1, hx, rfl, g1, nd1, m1, le1, hb1, hf2, hr, hl⟩)
theorem tx_add {k : Str} {tk : Tok} {Q : Bool → Shared → Prop} (R : TxSet P w s.heap a ks) (room : ks.length + 1 < scanBound)
    (hQ : ∀ b g', Heap.SameBut a s.heap g' → TxSet P w g' a (ks ++ [k]) → Q b { s with heap := g' }) :
    wpAny (model P w) A (setAddHashed a (.str k tk) ((PySem.strKind P w).hash k)) Q E s := by
  obtain ⟨ob, rows, ep, tb, ho, hx, hd, g, nd, hm, hle, hb, hf, hr, hl⟩ := R
  have hkey : (PySem.strKind P w).is k (.str k tk) = true := strKind_is P w k tk
  have hsc : (Value.str k tk).scannable = true := rfl
  have hel : ElemsOf (PySem.strKind P w) rows.toList := tx_elems g
  unfold setAddHashed setAddHashedIn
  refine wpAny_holding (wpAny_bind (wpAny_setState_of ho hd hf ?_))
  dsimp only
  rw [byScan_of hsc hb hel]
  simp only [↓reduceIte]
  unfold setAddByScan
  refine wpAny_bind ?_
  refine wpAny_bind (wpAny_rule ?_)
  refine wpAny_bind (wpAny_setScan_of hkey ho hd hf hel ?_)
  cases hfi : List.findIdx? (fun e => (PySem.strKind P w).is k e.2) rows.toList with
  | some j =>
    dsimp only
    obtain ⟨hj, pj, _⟩ := List.findIdx?_eq_some_iff_getElem.mp hfi
    have hk : k ∈ ks := (hm k).mp ((tx_mem (P := P) (w := w) g k).mpr ⟨rows.toList[j], List.getElem_mem hj, pj⟩)
    refine wpAny_pure (wpAny_pure ?_)
    refine hQ _ s.heap (Heap.SameBut.refl a s.heap) ⟨ob, rows, ep, tb, ho, hx, hd, g, nd, fun i => ?_, by rw [List.length_append]; omega, hb, hf, hr, hl⟩
    rw [hm i, List.mem_append, List.mem_singleton]
    exact ⟨.inl, fun z => z.elim id fun e => e ▸ hk⟩
  | none =>
    dsimp only
    have hnk : k ∉ rows.toList.map txOf := fun z => by
      obtain ⟨e, he, q⟩ := (tx_mem (P := P) (w := w) g k).mp z
      have c := List.findIdx?_eq_none_iff.mp hfi e he
      rw [q] at c
      cases c
    have hgw : ∀ (b : Bool) {s₁ : Shared} {Q' : Unit → Shared → Prop}, Q' () s₁ → wpAny (model P w) A (match b with | true => rule "set.scan.the-table-gave-way" | false => pure ()) Q' E s₁ :=
      fun b s₁ Q' q => by cases b <;> first | exact wpAny_pure q | exact wpAny_rule q
    have pm := layNew_perm tb rows ((PySem.strKind P w).hash k) (.str k tk)
    have q1 := layNew_fits tb rows ((PySem.strKind P w).hash k) (.str k tk)
    have q2 := layNew_ris tb rows ((PySem.strKind P w).hash k) (.str k tk) hr
    have q3 := layNew_led tb rows ((PySem.strKind P w).hash k) (.str k tk)
    generalize layNew tb rows ((PySem.strKind P w).hash k) (.str k tk) = Z at pm q1 q2 q3 ⊢
    obtain ⟨r1, t1, dm, gave⟩ := Z
    dsimp only at pm q1 q2 q3 ⊢
    rw [Array.toList_push] at pm
    have pc : r1.toList.Perm (((PySem.strKind P w).hash k, Value.str k tk) :: rows.toList) := pm.trans (List.perm_append_singleton _ _)
    have pk : (r1.toList.map txOf).Perm (k :: rows.toList.map txOf) := pc.map txOf
    have g1 : ∀ e ∈ r1.toList, TxE P w e := fun e he => by
      rcases List.mem_cons.mp (pc.mem_iff.mp he) with z | z
      · rw [z]; exact ⟨k, tk, rfl, rfl⟩
      · exact g e z
    have nd1 : (r1.toList.map txOf).Nodup := pk.nodup_iff.mpr (List.nodup_cons.mpr ⟨hnk, nd⟩)
    have m1 : ∀ i, i ∈ r1.toList.map txOf ↔ i ∈ ks ++ [k] := fun i => by
      rw [pk.mem_iff, List.mem_cons, hm i, List.mem_append, List.mem_singleton]
      exact Or.comm
    have hsz : r1.size = rows.size + 1 := by rw [← Array.length_toList, pc.length_eq, List.length_cons, Array.length_toList]
    have le1 : r1.size ≤ (ks ++ [k]).length := by rw [hsz, List.length_append]; show _ ≤ ks.length + 1; omega
    have hb1 : r1.size < scanBound := by omega
    have hled : w.params.followText "set-order" = true ∨ t1.led = true := hl.imp id fun z => by rw [q3]; exact z
    refine wpAny_bind (hgw _ ?_)
    split
    · refine wpAny_bind ?_
      rw [hashByValue_scannable 8 hsc]
      refine wpAny_pure ?_
      refine tx_tail ?_ ho hx hd g1 nd1 m1 le1 hb1 ?_ ?_ ?_ ?_
      · intro b s₁ Q' q; cases b <;> first | exact wpAny_pure q | exact wpAny_rule q
      · first | (split <;> first | exact q1 | exact SetTable.fits_plain_off q1) | exact q1
      · first | (split <;> exact q2) | exact q2
      · first | (split <;> exact hled) | exact hled
      · intro g' sb r; dsimp only; exact wpAny_pure (hQ _ g' sb r)
    · refine wpAny_bind (wpAny_pure ?_)
      simp only [↓reduceIte]
      refine tx_tail ?_ ho hx hd g1 nd1 m1 le1 hb1 q1 q2 hled ?_
      · intro b s₁ Q' q; cases b <;> first | exact wpAny_pure q | exact wpAny_rule q
      · intro g' sb r; dsimp only; exact wpAny_pure (hQ _ g' sb r)
theorem tx_fresh {g : Heap} (ks : List Str) (ho : g.get? a = some { cls := .type "set", dict := none, data := .set #[] 0 (.fresh 0 0 (!w.params.followText "set-order")) }) : TxSet P w g a (ks.take 0) :=
  ⟨_, #[], 0, _, ho, ⟨rfl, rfl, rfl⟩, rfl, (fun e he => by simp at he), (by simp), (fun k => by simp), Nat.zero_le _, (by decide), (by rfl), List.Pairwise.nil, by
    show _ ∨ (!w.params.followText "set-order") = true
    cases w.params.followText "set-order"
    · exact .inr rfl
    · exact .inl rfl⟩
theorem tx_update {I : Addr} {fp wr : List Addr} {G : Array GenState → Array GenState → Prop} {n : Nat} {Pv : Nat → Value → Prop} {St : Nat → Shared → Prop} {R : Result → Shared → Prop}
    (W : WalksS P w A.in1 I fp wr G n Pv St) (D : Addr) (hDf : D ∉ fp) (ks : List Str) (hn : n = ks.length) (hb : ks.length + 1 < scanBound) (hval : ∀ i v, Pv i v → ∃ k t, ks[i]? = some k ∧ v = .str k t) :
    ∀ (m i : Nat) (s : Shared), n - i = m → i ≤ n → St i s → TxSet P w s.heap D (ks.take i) →
      (∀ s', Moved (D :: wr) G s s' → TxSet P w s'.heap D ks → R (.ok (.ret .none)) s') →
      codeAny (model P w) A (.builtin "set.update.loop" ⟨[.ref D, .ref I], []⟩) R s := by
  have hDw : D ∉ wr := fun h => hDf (W.sub _ h)
  have sub : ∀ b ∈ wr, b ∈ D :: wr := fun b hb => List.mem_cons_of_mem _ hb
  intro m
  induction m with
  | zero =>
    intro i s hm hi hst hS hR
    obtain rfl : i = n := by omega
    refine codeAny_builtin F.entry_set_update_loop ?_
    rw [Around.under_plainId F.plain_set_update_loop _]
    show wpAny _ A.in1 (pyNext (.ref I) >>= _) _ _ s
    refine wpAny_bind (W.done s _ _ hst fun s' mv => ?_)
    show wpAny _ A.in1 (ret Value.none) _ _ s'
    have e : ks.take i = ks := List.take_of_length_le (by omega)
    rw [e] at hS
    exact wpAny_pure (hR s' (mv.mono sub) (hS.keep fun o e => mv.heap D o hDw e))
  | succ m ih =>
    intro i s hm hi hst hS hR
    have hlt : i < n := by omega
    refine codeAny_builtin F.entry_set_update_loop ?_
    rw [Around.under_plainId F.plain_set_update_loop _]
    show wpAny _ A.in1 (pyNext (.ref I) >>= _) _ _ s
    refine wpAny_bind (W.item i s _ _ hlt hst fun v s' hP hst' mv => ?_)
    obtain ⟨z, t, hz, rfl⟩ := hval i v hP
    have hS' : TxSet P w s'.heap D (ks.take i) := hS.keep fun o e => mv.heap D o hDw e
    show wpAny _ A.in1 (holding [Value.str z t] (setAdd D (.str z t)) >>= _) _ _ s'
    refine wpAny_bind (wpAny_holding ?_)
    unfold setAdd
    refine wpAny_holding ?_
    refine wpAny_bind ((PySem.strKind P w).pyHash (k := z) (strKind_is _ _ _ _) ?_)
    refine tx_add (s := { s' with toks := s'.toks + 1 }) hS' (by rw [List.length_take]; omega) fun b g' sb hS2 => ?_
    have e : ks.take i ++ [z] = ks.take (i + 1) := by rw [List.take_add_one, hz]; rfl
    rw [e] at hS2
    refine wpAny_pure ⟨plainId_quiet F.plain_set_update_loop _, ih (i + 1) _ (by omega) hlt (W.frame _ s' _ _ hst' (Nat.le_succ _) fun b hb o e => ?_) hS2 fun s'' mv2 hS3 => ?_⟩
    · rw [sb.2 b (fun h : b = D => hDf (by rw [← h]; exact hb))]; exact e
    · refine hR s'' (Moved.trans W.gtrans ((mv.mono sub).then_heap (Nat.le_succ _) fun b o hb e => ?_) mv2) hS3
      rw [sb.2 b (fun h : b = D => hb (by rw [h]; exact List.mem_cons_self))]; exact e
abbrev freshO (w : World) : Obj := { cls := .type "set", dict := none, data := .set #[] 0 (.fresh 0 0 (!w.params.followText "set-order")) }
set_option maxHeartbeats 6400000 in
theorem tx_set {l : Addr} {its : Array Value} (ks : List Str) {Q : Value → Shared → Prop} (hh : A.handled = none) (hl : s.heap.IsList l its) (hit : PyProof.Rows.StrsAre its.toList ks) (hb : ks.length + 1 < scanBound)
    (h : ∀ (g' : Heap) (tk : Nat), TxSet P w g' s.heap.objs.size ks → (∀ b o, s.heap.get? b = some o → g'.get? b = some o) → Q (.ref s.heap.objs.size) { s with heap := g', toks := tk }) :
    wpAny (model P w) A (call (.type "set") [.ref l]) Q E s := by
  have hsz : its.size = ks.length := by
    rw [← PyProof.Rows.StrsAre.len_eq hit, Array.length_toList]
  obtain ⟨c, tl, hmro⟩ := F.called_set.mro
  have hmade := F.called_set.made
  have hsub := F.called_set.sub
  refine wpAny_call (codeAny_of_tree ?_)
  show wpAny _ _ (callAny (.type "set") _) _ _ _
  refine wpAny_pure ⟨Code.quiet_builtin _ (by decide +kernel), codeAny_builtin F.entry_type_call ?_⟩
  rw [Around.under_plain (weight_type_call_type "set" [.ref l] []) rfl]
  have f1 := F.called_set.notType
  have f2 := F.called_set.canCreate
  have f3 := F.typeCall_set_1 (.ref l)
  repeat (any_goals (first | assumption | wp_step))
  generalize hO : ({ cls := .type "set", dict := none, data := .set #[] 0 (.fresh 0 0 (!w.params.followText "set-order")) } : Obj) = O
  refine codeAny_mono (code_set_led1 (.ref l) (E := E) (Q₁ := fun ob s₁ => ob = .ref s.heap.objs.size ∧ s₁ = { s with heap := s.heap.push O }) ⟨rfl, by rw [hO]⟩) fun r s₁ hr => ?_
  cases r with
  | error e => exact hr
  | ok fl =>
    cases fl with
    | ret ob =>
      obtain ⟨rfl, rfl⟩ := hr
      have hcO : O.cls = .type "set" := by rw [← hO]
      have hS : (s.heap.push O).get? s.heap.objs.size = some O := Heap.get?_push_size _ (by rw [← hO]; rfl)
      have hT : Shared.TypeIs { s with heap := s.heap.push O } (.ref s.heap.objs.size) "set" := ⟨_, hS, hcO⟩
      have f4 := F.called_set.init.lookup
      have f5 := F.called_set.init.bind (.ref s.heap.objs.size)
      repeat (any_goals (first | assumption | wp_step))
      refine codeAny_mono (codeAny_call_builtin (R := wants (fun r s₂ => r = .none ∧ ∃ g' tk, s₂ = { s with heap := g', toks := tk } ∧ TxSet P w g' s.heap.objs.size ks ∧
          (∀ b o, s.heap.get? b = some o → g'.get? b = some o)) E) F.called_set.init.plain F.entry_set_init (check_set_init_1 hT ?_)) fun r₂ s₂ hr₂ => ?_
      · subst hO
        obtain ⟨ol, hol, hcl, nl, hdl⟩ := hl
        obtain ⟨ocls, odict, odata, oslots⟩ := ol
        simp only at hcl hdl
        subst hcl; subst hdl
        have hol' : (s.heap.push (freshO w)).get? l = some { cls := .type "list", dict := odict, data := .seq its nl, slots := oslots } := Heap.get?_push_of_some _ hol
        have f6 := F.sub_list_set
        have f7 := F.sub_list_frozenset
        have f8 : (Value.type "list" == Value.type "dict") = false := by decide
        have hl1 : (s.heap.push (freshO w)).IsList l its := ⟨_, hol', rfl, nl, rfl⟩
        unfold Builtin.«set.__init__» noKeywords Builtin.Frozenset.updateFrom
        generalize hPI : pyIter = PI
        wp_walk
        subst hPI
        refine wpAny_pyIter_list hl1 ?_
        refine wpAny_bind (wpAny_runValue ?_)
        have hlt : l < s.heap.objs.size := Heap.lt_size hol
        have hh3 : A.in1.in1.in1.handled = none := by simp [hh]
        have hne : l ≠ (s.heap.push (freshO w)).objs.size := by
          rw [Heap.size_push]; exact Nat.ne_of_lt (Nat.lt_succ_of_lt hlt)
        have hDf : s.heap.objs.size ∉ [(s.heap.push (freshO w)).objs.size, l] := by
          rw [Heap.size_push]; simp only [List.mem_cons, List.mem_singleton, List.not_mem_nil, or_false, not_or]
          exact ⟨Nat.ne_of_lt (Nat.lt_succ_self _), Nat.ne_of_gt hlt⟩
        have hval : ∀ (i : Nat) (v : Value), its[i]? = some v → ∃ k t, ks[i]? = some k ∧ v = .str k t := fun i v hv => by
          have hi : i < ks.length := by rw [← hsz]; exact (Array.getElem?_eq_some_iff.mp hv).1
          obtain ⟨t, e⟩ := SS.strs_at hit i v (by rw [Array.getElem?_toList]; exact hv)
          refine ⟨ks[i], t, List.getElem?_eq_getElem hi, ?_⟩
          rw [e, List.getD_eq_getElem?_getD, List.getElem?_eq_getElem hi] <;> rfl
        refine tx_update ((Walks.list hh3 _ l hne its).toS) s.heap.objs.size
          hDf ks hsz hb hval (its.size - 0) 0 _ (by omega) (Nat.zero_le _)
          ⟨⟨_, Heap.get?_push_size _ rfl, rfl, rfl⟩, (hl1.push _)⟩ ?hS0 ?hR
        case hS0 =>
          have hget : ((s.heap.push (freshO w)).push { cls := .type "list_iterator", data := .fields #[.ref l, .int 0 0] }).get? s.heap.objs.size = some (freshO w) := Heap.get?_push_of_some _ hS
          exact tx_fresh ks hget
        case hR =>
          intro s' mv hS'
          obtain ⟨g', g2, d', tk', os'⟩ := s'
          have eg : g2 = s.gens := mv.gens
          have ed : d' = s.drawn := mv.drawn
          have eo : os' = s.os := mv.os
          subst eg; subst ed; subst eo
          show wpAny _ _ _ _ _ _
          refine wpAny_pure ?_
          show wpAny _ _ (ret Value.none) _ _ _
          refine wpAny_pure ⟨rfl, g', tk', rfl, hS', fun b o e => ?_⟩
          have hb0 : b < s.heap.objs.size := Heap.lt_size e
          have hb1 : b ≠ s.heap.objs.size := Nat.ne_of_lt hb0
          have hb2 : b ≠ (s.heap.push (freshO w)).objs.size := by
            rw [Heap.size_push]; exact Nat.ne_of_lt (Nat.lt_succ_of_lt hb0)
          exact mv.heap b o (by simp only [List.mem_cons, List.mem_singleton, List.not_mem_nil, or_false, not_or]; exact ⟨hb1, hb2⟩) (Heap.get?_push_of_some _ (Heap.get?_push_of_some _ e))
      · cases r₂ with
        | error e => exact hr₂
        | ok fl₂ =>
          cases fl₂ with
          | ret r =>
            obtain ⟨rfl, g', tk, rfl, hS', hk'⟩ := hr₂
            repeat (any_goals (first | assumption | wp_step))
            exact h _ _ hS' hk'
          | _ => exact hr₂.elim
    | _ => exact hr.elim
theorem tx_vals : ∀ (l : List Value), (∀ v ∈ l, ∃ k tk, v = Value.str k tk) → PyProof.Rows.StrsAre l (l.map fun v => txOf (0, v))
  | [], _ => .nil
  | v :: l, h => by
    obtain ⟨k, tk, rfl⟩ := h v List.mem_cons_self
    exact .cons k tk (tx_vals l fun v hv => h v (List.mem_cons_of_mem _ hv))
theorem tx_sorted {ks : List Str} {Q : Value → Shared → Prop} (R : TxSet P w s.heap a ks) (hh : A.handled = none) (h64 : ks.length < 64)
    (hQ : ∀ s' p (out : Array Value) (c : Nat) (ys : List Str), (∀ b o, s.heap.get? b = some o → s'.heap.get? b = some o) → s'.gens = s.gens → s'.os = s.os → s.heap.objs.size ≤ p →
      s'.heap.get? p = some (seqObj "list" out c) → PyProof.Rows.StrsAre out.toList ys → ys.Nodup → (∀ k, k ∈ ys ↔ k ∈ ks) → PyProof.Rows.sortedS ys = true → ys.length ≤ ks.length → Q (.ref p) s') :
    wpAny (model P w) A (call (.builtin "sorted") [.ref a]) Q E s := by
  obtain ⟨ob, rows, ep, tb, ho, hex, hd, g, nd, hm, hle, hb, hf, hr, hl⟩ := R
  refine Calls.call_function_entry kind_sorted plain_sorted entry_sorted (args_sorted1 _) ?_
  unfold Builtin.«sorted»
  refine wpAny_bind (m := checkCount "sorted" 1 1 _) (wpAny_pure ?_)
  refine wpAny_bind (collect_set (A := A.in1) hh ⟨ob, ho, hex.1, hd⟩ hf hb hr hl fun s1 vs k1 hz g1 o1 pm => ?_)
  have hvl : vs.length ≤ ks.length := by rw [pm.length_eq, List.length_map, Array.length_toList]; exact hle
  have hI := tx_vals vs fun v hv => by
    obtain ⟨e, he, q⟩ := List.mem_map.mp (pm.mem_iff.mp hv)
    obtain ⟨k, tk, h1, _⟩ := g e he
    exact ⟨k, tk, by rw [← q]; exact h1⟩
  have pk : (vs.map fun v => txOf (0, v)).Perm (rows.toList.map txOf) := by
    have q := pm.map fun v => txOf (0, v)
    rw [List.map_map] at q
    exact q
  refine wpAny_bind (wpAny_newList ?_ (by rw [sizeLine_eq]; omega))
  have hoL : (s1.heap.push (seqObj "list" vs.toArray 0)).get? s1.heap.objs.size = some (seqObj "list" vs.toArray 0) := Heap.get?_push_size _ rfl
  refine wpAny_bind (wpAny_holding (wpAny_call_entry slot_list_sort ⟨_, hoL, rfl⟩ entry_list_sort (list_sort_treeK strKind_oneLt hoL hI.keysOf (fun v₁ v₂ rest e => keyKind_strs (by rw [← e]; exact hI)) (by omega) fun st' a1 a2 => ⟨_, rfl, ?_⟩) (args_list_sort _)))
  obtain ⟨ys, b1, b2, b3⟩ := sorted_out_str hI a1 a2
  obtain ⟨c, hc⟩ := sortedHeap_at (vs := vs) (out := (arrOf st').map (·.2)) hoL
  have pn : ys.Perm (rows.toList.map txOf) := b2.trans pk
  refine wpAny_pure ⟨_, rfl, hQ _ s1.heap.objs.size _ c ys (fun b u e => ?_) g1 o1 hz hc b1 (pn.nodup_iff.mpr nd) (fun k => by rw [pn.mem_iff, hm k]) b3 ?_⟩
  · have q := k1 b u e
    have hlt := Heap.lt_size q
    show (sortedHeap (s1.heap.push (seqObj "list" vs.toArray 0)) s1.heap.objs.size vs _).get? b = some u
    rw [sortedHeap_old (Nat.ne_of_lt hlt) (by rw [size_push']; exact Nat.lt_succ_of_lt hlt)]
    exact Heap.get?_push_of_some _ q
  · rw [pn.length_eq, List.length_map, Array.length_toList]; exact hle
end
/-- the set of texts at a -/
def TxO (P : Program) (w : World) (a : Addr) (ks : List Str) : HO := .ext fun g => TxSet P w g a ks
section
variable {X : Cx}
theorem txO_new {P : Program} {w : World} {H : Hp} {g : Heap} {a : Addr} {ks : List Str} (R : TxSet P w g a ks) : ObjOk P w H g a (TxO P w a ks) := by
  have ⟨o, _, _, _, ho, _⟩ := R
  exact ⟨R, ⟨o, ho⟩, fun h1 h2 p k => TxSet.keep p k⟩
/-- set(xs), xs a list of texts -/
def rSetTx (K : PySem.W.Frag) (P : Program) (w : World) : List V → Hp → VK → Prop := fun xs H Q => ∃ (l : Addr) (ks : List Str), xs = [V.ref l] ∧ SqL K H l (ks.map V.str) ∧ ks.length < 4000 ∧
  ∀ a, H a = none → Q (.ref a) (upd H a (TxO P w a ks))
theorem cr_setTx (hc : X.calm = true) : CallR X (.type "set") (rSetTx X.K X.prog X.w) := by
  intro pins s σ H xs us Q I r h
  obtain ⟨l, ks, rfl, hl, hf, q⟩ := h
  rw [Vals.ref1 r]
  obtain ⟨its, rv, pl, hz⟩ := I.list hl
  have hn : H s.heap.objs.size = none := I.hok.fresh (Nat.le_refl _)
  refine tx_set (P := X.prog) (w := X.w) ks (I.ok.hd hc) pl.isList rv.strs (by unfold scanBound; omega) fun g' tk R k => ?_
  exact ⟨.ref s.heap.objs.size, upd H s.heap.objs.size (TxO X.prog X.w s.heap.objs.size ks), I.laid (t' := tk) k (Nat.le_refl _) (txO_new R), rfl, q _ hn⟩
/-- sorted of such a set -/
def rSortTx (P : Program) (w : World) : List V → Hp → VK → Prop := fun xs H Q => ∃ (a : Addr) (ks : List Str), xs = [V.ref a] ∧ H a = some (TxO P w a ks) ∧ ks.length < 64 ∧
  ∀ (ys : List Str) (p : Addr), ys.Nodup → (∀ k, k ∈ ys ↔ k ∈ ks) → PyProof.Rows.sortedS ys = true → ys.length ≤ ks.length → H p = none → Q (.ref p) (upd H p (.lst (ys.map V.str)))
theorem cr_sortTx (hc : X.calm = true) : CallR X (.builtin "sorted") (rSortTx X.prog X.w) := by
  intro pins s σ H xs us Q I r h
  obtain ⟨a, ks, rfl, ha, h64, q⟩ := h
  have R : TxSet X.prog X.w s.heap a ks := (I.hok a _ ha).1
  rw [Vals.ref1 r]
  refine tx_sorted R (I.ok.hd hc) h64 fun s' p out c ys k g o hp hg hi hnd hmem hso hle => ?_
  have hlen : (ys.map V.str).length ≤ sizeLine := by rw [List.length_map, sizeLine_eq]; omega
  have hn : H p = none := I.hok.fresh hp
  have J : Inv X pins σ (upd H p (.lst (ys.map V.str))) { s with heap := s'.heap, gens := s'.gens, drawn := s'.drawn, toks := s'.toks } :=
    I.call (ch := []) (Un.laid k hp hn) (I.hok.laid k hp ⟨hlen, out.toList, c, vals_of_strs hi, hg⟩) (by rw [g]; exact I.bare) (fun _ z => nomatch z)
  have e : s' = { s with heap := s'.heap, gens := s'.gens, drawn := s'.drawn, toks := s'.toks } := by
    cases s'
    cases s
    cases o
    rfl
  rw [e]
  exact ⟨.ref p, _, J, rfl, q ys p hnd hmem hso hle hn⟩
end
end My

/-! My own rules: a dict is locked, or was locked before; walks of locked dicts; two fors over a dict's values and each value's items. -/
namespace My
open PySem PySem.Spec PyProof.Rows L2
/-- as under a lock, where the thing may be locked before -/
def tMay (t : TS) : TS := fun D σ H => ∃ d u od, ∃ bk : Hp → Hp,
  ((H d = some u ∧ Mut (some u) ∧ bk = (fun H' => upd H' d u) ∧ ∀ od, t ⟨fun σ' H' => H' d = some (.frz od u) ∧ D.nx σ' (bk H'), fun v H' => H' d = some (.frz od u) ∧ D.rt v (bk H'), fun σ' H' => H' d = some (.frz od u) ∧ D.bk σ' (bk H'), fun σ' H' => H' d = some (.frz od u) ∧ D.ct σ' (bk H')⟩ σ (upd H d (.frz od u))) ∨
    (H d = some (.frz od u) ∧ bk = id ∧ t ⟨fun σ' H' => H' d = some (.frz od u) ∧ D.nx σ' (bk H'), fun v H' => H' d = some (.frz od u) ∧ D.rt v (bk H'), fun σ' H' => H' d = some (.frz od u) ∧ D.bk σ' (bk H'), fun σ' H' => H' d = some (.frz od u) ∧ D.ct σ' (bk H')⟩ σ H))
section
variable {X : Cx}
theorem ps_may {st : Stmt} {t : TS} (h : PS X st t) : PS X st (tMay t) := by
  refine ⟨fun pins s σ H D I hw => ?_⟩
  obtain ⟨d, u, od, bk, ⟨hd, mu, rfl, hw⟩ | ⟨hd, rfl, hw⟩⟩ := hw
  · exact (ps_lock h).run pins s σ H D I ⟨d, u, hd, mu, hw⟩
  · refine thn (h.run pins s σ _ _ I hw) fun f s1 q => ?_
    cases f with
    | next => obtain ⟨σ', H', I2, _, q⟩ := q; exact ⟨σ', H', I2, q⟩
    | brk => obtain ⟨σ', H', I2, _, q⟩ := q; exact ⟨σ', H', I2, q⟩
    | cont => obtain ⟨σ', H', I2, _, q⟩ := q; exact ⟨σ', H', I2, q⟩
    | ret v => obtain ⟨x, σ', H', I2, r, _, q⟩ := q; exact ⟨x, σ', H', I2, r, q⟩
end
theorem may_ask {t : TS} {D : Ends} {σ : L2.St} {H : Hp} {d : Addr} {kvs : List (Key × V)} (hd : Rd H d (.dK kvs))
    (k : ∀ od Hl, ∀ bk : Hp → Hp, Hl d = some (.frz od (.dK kvs)) → (∀ c, c ≠ d → Hl c = H c) → (∀ H' c, c ≠ d → bk H' c = H' c) → (∀ H', H' d = some (.frz od (.dK kvs)) → bk H' d = H d) →
      t ⟨fun σ' H' => H' d = some (.frz od (.dK kvs)) ∧ D.nx σ' (bk H'), fun v H' => H' d = some (.frz od (.dK kvs)) ∧ D.rt v (bk H'), fun σ' H' => H' d = some (.frz od (.dK kvs)) ∧ D.bk σ' (bk H'), fun σ' H' => H' d = some (.frz od (.dK kvs)) ∧ D.ct σ' (bk H')⟩ σ Hl) : tMay t D σ H := by
  rcases hd with hd | ⟨o, hd⟩
  · exact ⟨d, _, default, _, .inl ⟨hd, trivial, rfl, fun od => k od _ _ upd_same (fun c h => upd_ne h) (fun H' c h => upd_ne h) fun H' _ => by rw [hd]; exact upd_same⟩⟩
  · exact ⟨d, _, o, _, .inr ⟨hd, rfl, k o H id hd (fun c _ => rfl) (fun H' c _ => rfl) fun H' e => by rw [hd]; exact e⟩⟩
section
variable {d : Addr} {o : Obj} {kvs : List (Key × V)} {g : TG} {tb : TS} {D : Ends} {σ : L2.St} {H : Hp}
theorem for_vals (Pv : Nat → L2.St → Hp → Prop) (h0 : Pv 0 σ H) (hl : ∀ i σ H, i ≤ kvs.length → Pv i σ H → H d = some (.frz o (.dK kvs)))
    (hs : ∀ i k v σ H, kvs[i]? = some (k, v) → Pv i σ H → g v σ H fun σ2 H2 => tb { D with nx := Pv (i + 1), ct := Pv (i + 1), bk := D.nx } σ2 H2) (hd : ∀ σ H, Pv kvs.length σ H → D.nx σ H) :
    ∃ W : Nat → Nat → L2.St → Hp → Prop, (∃ m, W 0 m σ H) ∧ ∀ i m σ H, W i m σ H →
      ((Itd d o kvs).stop i H ∧ D.nx σ H) ∨ ((Itd d o kvs).go i H ∧ ∃ N : L2.St → Hp → Prop, (∀ σ' H', N σ' H' → ∃ m', m' < m ∧ W (i + 1) m' σ' H') ∧ ∀ x H', (Itd d o kvs).yld i H x H' → g x σ H' fun σ2 H2 => tb { D with nx := N, ct := N, bk := D.nx } σ2 H2) := by
  refine ⟨fun i m σ H => m = kvs.length - i ∧ i ≤ kvs.length ∧ Pv i σ H, ⟨kvs.length, by simp, Nat.zero_le _, h0⟩, ?_⟩
  rintro i m σ H ⟨rfl, hi, p⟩
  have q := hl i σ H hi p
  rcases Nat.lt_or_ge i kvs.length with lt | ge
  · refine .inr ⟨⟨q, lt⟩, Pv (i + 1), fun σ' H' p' => ⟨kvs.length - (i + 1), by omega, rfl, lt, p'⟩, ?_⟩
    rintro x H' ⟨rfl, k, e⟩
    exact hs i k x σ _ e p
  · have e : i = kvs.length := by omega
    subst e
    exact .inl ⟨⟨q, Nat.le_refl _⟩, hd σ H p⟩
theorem for_ents (Pv : Nat → L2.St → Hp → Prop) (h0 : Pv 0 σ H) (hl : ∀ i σ H, i ≤ kvs.length → Pv i σ H → H d = some (.frz o (.dK kvs)))
    (hs : ∀ i k v T σ H, kvs[i]? = some (k, v) → Pv i σ H → H T = none → g (.ref T) σ (upd H T (.tup [kV k, v])) fun σ2 H2 => tb { D with nx := Pv (i + 1), ct := Pv (i + 1), bk := D.nx } σ2 H2) (hd : ∀ σ H, Pv kvs.length σ H → D.nx σ H) :
    ∃ W : Nat → Nat → L2.St → Hp → Prop, (∃ m, W 0 m σ H) ∧ ∀ i m σ H, W i m σ H →
      ((Iti d o kvs).stop i H ∧ D.nx σ H) ∨ ((Iti d o kvs).go i H ∧ ∃ N : L2.St → Hp → Prop, (∀ σ' H', N σ' H' → ∃ m', m' < m ∧ W (i + 1) m' σ' H') ∧ ∀ x H', (Iti d o kvs).yld i H x H' → g x σ H' fun σ2 H2 => tb { D with nx := N, ct := N, bk := D.nx } σ2 H2) := by
  refine ⟨fun i m σ H => m = kvs.length - i ∧ i ≤ kvs.length ∧ Pv i σ H, ⟨kvs.length, by simp, Nat.zero_le _, h0⟩, ?_⟩
  rintro i m σ H ⟨rfl, hi, p⟩
  have q := hl i σ H hi p
  rcases Nat.lt_or_ge i kvs.length with lt | ge
  · refine .inr ⟨⟨q, lt⟩, Pv (i + 1), fun σ' H' p' => ⟨kvs.length - (i + 1), by omega, rfl, lt, p'⟩, ?_⟩
    rintro x H' ⟨T, k, v, e, rfl, nT, rfl⟩
    exact hs i k v T σ H e p nT
  · have e : i = kvs.length := by omega
    subst e
    exact .inl ⟨⟨q, Nat.le_refl _⟩, hd σ H p⟩
theorem for_keys (Pv : Nat → L2.St → Hp → Prop) (h0 : Pv 0 σ H) (hl : ∀ i σ H, i ≤ kvs.length → Pv i σ H → H d = some (.frz o (.dK kvs)))
    (hs : ∀ i k v σ H, kvs[i]? = some (k, v) → Pv i σ H → g (kV k) σ H fun σ2 H2 => tb { D with nx := Pv (i + 1), ct := Pv (i + 1), bk := D.nx } σ2 H2) (hd : ∀ σ H, Pv kvs.length σ H → D.nx σ H) :
    ∃ W : Nat → Nat → L2.St → Hp → Prop, (∃ m, W 0 m σ H) ∧ ∀ i m σ H, W i m σ H →
      ((Itk d o kvs).stop i H ∧ D.nx σ H) ∨ ((Itk d o kvs).go i H ∧ ∃ N : L2.St → Hp → Prop, (∀ σ' H', N σ' H' → ∃ m', m' < m ∧ W (i + 1) m' σ' H') ∧ ∀ x H', (Itk d o kvs).yld i H x H' → g x σ H' fun σ2 H2 => tb { D with nx := N, ct := N, bk := D.nx } σ2 H2) := by
  refine ⟨fun i m σ H => m = kvs.length - i ∧ i ≤ kvs.length ∧ Pv i σ H, ⟨kvs.length, by simp, Nat.zero_le _, h0⟩, ?_⟩
  rintro i m σ H ⟨rfl, hi, p⟩
  have q := hl i σ H hi p
  rcases Nat.lt_or_ge i kvs.length with lt | ge
  · refine .inr ⟨⟨q, lt⟩, Pv (i + 1), fun σ' H' p' => ⟨kvs.length - (i + 1), by omega, rfl, lt, p'⟩, ?_⟩
    rintro x H' ⟨rfl, k, v, e, rfl⟩
    exact hs i k v σ _ e p
  · have e : i = kvs.length := by omega
    subst e
    exact .inl ⟨⟨q, Nat.le_refl _⟩, hd σ H p⟩
end
/-- the outer for of two: over a locked dict's values -/
theorem lc2_vals {d : Addr} {o : Obj} {kvs : List (Key × V)} {g : TG} {vs : List Nat} {σ : L2.St} {H1 : Hp} {D : Addr} {Qd : Hp → Prop} {R : L2.St → Hp → (Hp → Prop) → Prop} (Pv : Nat → Hp → Prop) (h0 : Pv 0 (upd H1 D (.lst []))) (hl : ∀ i H, i ≤ kvs.length → Pv i H → H d = some (.frz o (.dK kvs)))
    (hs : ∀ i k v H, kvs[i]? = some (k, v) → Pv i H → g v (wipe σ vs) H fun σ2 H2 => wipe σ2 vs = wipe σ vs ∧ R σ2 H2 (Pv (i + 1))) (hd : ∀ H, Pv kvs.length H → Qd H) :
    ∃ W : Nat → Nat → Hp → Prop, (∃ m, W 0 m (upd H1 D (.lst []))) ∧ ∀ i m H, W i m H →
      ((Itd d o kvs).stop i H ∧ Qd H) ∨ ((Itd d o kvs).go i H ∧ ∃ Nx : Hp → Prop, (∀ H', Nx H' → ∃ m', m' < m ∧ W (i + 1) m' H') ∧ ∀ x H', (Itd d o kvs).yld i H x H' → g x (wipe σ vs) H' fun σ2 H2 => wipe σ2 vs = wipe σ vs ∧ R σ2 H2 Nx) := by
  refine ⟨fun i m H => m = kvs.length - i ∧ i ≤ kvs.length ∧ Pv i H, ⟨kvs.length, by simp, Nat.zero_le _, h0⟩, ?_⟩
  rintro i m H ⟨rfl, hi, p⟩
  have q := hl i H hi p
  rcases Nat.lt_or_ge i kvs.length with lt | ge
  · refine .inr ⟨⟨q, lt⟩, Pv (i + 1), fun H' p' => ⟨kvs.length - (i + 1), by omega, rfl, lt, p'⟩, ?_⟩
    rintro x H' ⟨rfl, k, e⟩
    exact hs i k x _ e p
  · have e : i = kvs.length := by omega
    subst e
    exact .inl ⟨⟨q, Nat.le_refl _⟩, hd H p⟩
/-- the inner for of two: over a tuple -/
theorem lc2_tup {K : PySem.W.Frag} {a : Addr} {xs : List V} {Nx : Hp → Prop} {H4 : Hp} {R : V → Hp → (Hp → Prop) → Prop} (Pv : Nat → Hp → Prop) (h0 : Pv 0 H4) (hl : ∀ i H, i ≤ xs.length → Pv i H → SqT K H a xs)
    (hs : ∀ i x H, xs[i]? = some x → Pv i H → R x H (Pv (i + 1))) (hd : ∀ H, Pv xs.length H → Nx H) :
    ∃ W : Nat → Nat → Hp → Prop, (∃ m, W 0 m H4) ∧ ∀ j k H, W j k H →
      ((Itt K a).stop j H ∧ Nx H) ∨ ((Itt K a).go j H ∧ ∃ Nx1 : Hp → Prop, (∀ H', Nx1 H' → ∃ k', k' < k ∧ W (j + 1) k' H') ∧ ∀ x H', (Itt K a).yld j H x H' → R x H' Nx1) := by
  refine ⟨fun i m H => m = xs.length - i ∧ i ≤ xs.length ∧ Pv i H, ⟨xs.length, by simp, Nat.zero_le _, h0⟩, ?_⟩
  rintro i m H ⟨rfl, hi, p⟩
  have q := hl i H hi p
  rcases Nat.lt_or_ge i xs.length with lt | ge
  · refine .inr ⟨⟨xs, xs[i], q, by simp [lt]⟩, Pv (i + 1), fun H' p' => ⟨xs.length - (i + 1), by omega, rfl, lt, p'⟩, fun x H' y => ?_⟩
    obtain ⟨e, y⟩ := y
    subst e
    exact hs i x _ (y xs q) p
  · have e : i = xs.length := by omega
    subst e
    exact .inl ⟨⟨xs, q, Nat.le_refl _⟩, hd H p⟩
/-- a, b, c = a tuple or a list -/
def gSeq (K : PySem.W.Frag) (n : Nat) (t : TGs) : TG := fun v σ H Q => gTup K n t v σ H Q ∨ gLst K n t v σ H Q
theorem pg_seq {X : Cx} {pos : Pos} {es : List Expr} {k : Nat} {t : TGs} {n : Nat} (hc : X.calm = true) (h : PGs X es t)
    (hn : (assignEach es X.env).length = n := by rfl) (hst : (assignEach es X.env).findIdx? (·.1) = none := by rfl) : PG X (.Tuple es k pos) (gSeq X.K n t) :=
  ⟨fun pins s σ H v u Q I r hw => hw.elim ((pg_tup hc h hn hst).run pins s σ H v u Q I r) ((pg_lst hc h hn hst).run pins s σ H v u Q I r)⟩
/-- a for over a list or a tuple that stays -/
theorem for_seq {K : PySem.W.Frag} {a : Addr} {xs : List V} {g : TG} {tb : TS} {D : Ends} {σ : L2.St} {H H0 : Hp} (hq : SqL K H0 a xs ∨ SqT K H0 a xs) (Pv : Nat → L2.St → Hp → Prop) (h0 : Pv 0 σ H)
    (hl : ∀ i σ H', Pv i σ H' → (SqL K H0 a xs → SqL K H' a xs) ∧ (SqT K H0 a xs → SqT K H' a xs))
    (hs : ∀ i x σ H, xs[i]? = some x → Pv i σ H → g x σ H fun σ2 H2 => tb { D with nx := Pv (i + 1), ct := Pv (i + 1), bk := D.nx } σ2 H2) (hd : ∀ σ H, Pv xs.length σ H → D.nx σ H) :
    ((∃ xs, SqL K H a xs) ∧ ∃ W : Nat → Nat → L2.St → Hp → Prop, (∃ m, W 0 m σ H) ∧ ∀ i m σ H, W i m σ H →
      ((Itl K a).stop i H ∧ D.nx σ H) ∨ ((Itl K a).go i H ∧ ∃ N : L2.St → Hp → Prop, (∀ σ' H', N σ' H' → ∃ m', m' < m ∧ W (i + 1) m' σ' H') ∧ ∀ x H', (Itl K a).yld i H x H' → g x σ H' fun σ2 H2 => tb { D with nx := N, ct := N, bk := D.nx } σ2 H2)) ∨
    ((∃ xs, SqT K H a xs) ∧ ∃ W : Nat → Nat → L2.St → Hp → Prop, (∃ m, W 0 m σ H) ∧ ∀ i m σ H, W i m σ H →
      ((Itt K a).stop i H ∧ D.nx σ H) ∨ ((Itt K a).go i H ∧ ∃ N : L2.St → Hp → Prop, (∀ σ' H', N σ' H' → ∃ m', m' < m ∧ W (i + 1) m' σ' H') ∧ ∀ x H', (Itt K a).yld i H x H' → g x σ H' fun σ2 H2 => tb { D with nx := N, ct := N, bk := D.nx } σ2 H2)) := by
  rcases hq with hq | hq
  · exact .inl ⟨⟨_, (hl 0 σ H h0).1 hq⟩, for_list Pv h0 (fun i σ H' _ p => (hl i σ H' p).1 hq) hs hd⟩
  · exact .inr ⟨⟨_, (hl 0 σ H h0).2 hq⟩, for_tup Pv h0 (fun i σ H' _ p => (hl i σ H' p).2 hq) hs hd⟩
/-- {k: v for .. in xs}, xs a tuple that stays -/
theorem dc_tup {K : PySem.W.Frag} {a : Addr} {xs : List V} {g : TG} {tt : TT} {tk tv : TE} {vs : List Nat} {σ : L2.St} {H1 : Hp} {D : Addr} {Qd : Hp → Prop} (Pv : Nat → Hp → Prop) (h0 : Pv 0 (upd H1 D (.dK []))) (hl : ∀ i H, i ≤ xs.length → Pv i H → SqT K H a xs)
    (hs : ∀ i x H, xs[i]? = some x → Pv i H → g x (wipe σ vs) H fun σ2 H2 => wipe σ2 vs = wipe σ vs ∧ tt σ2 H2 fun b H3 =>
      if b = true then tk σ2 H3 fun y H4 => tv σ2 H4 fun z H5 => ∃ kvs k, y = kV k ∧ H5 D = some (.dK kvs) ∧ kvs.length < sizeLine ∧ Pv (i + 1) (upd H5 D (.dK (putK kvs k z))) else Pv (i + 1) H3) (hd : ∀ H, Pv xs.length H → Qd H) :
    ∃ W : Nat → Nat → Hp → Prop, (∃ m, W 0 m (upd H1 D (.dK []))) ∧ ∀ i m H, W i m H →
      ((Itt K a).stop i H ∧ Qd H) ∨ ((Itt K a).go i H ∧ ∃ Nx : Hp → Prop, (∀ H', Nx H' → ∃ m', m' < m ∧ W (i + 1) m' H') ∧ ∀ x H', (Itt K a).yld i H x H' → g x (wipe σ vs) H' fun σ2 H2 => wipe σ2 vs = wipe σ vs ∧ tt σ2 H2 fun b H3 =>
        if b = true then tk σ2 H3 fun y H4 => tv σ2 H4 fun z H5 => ∃ kvs k, y = kV k ∧ H5 D = some (.dK kvs) ∧ kvs.length < sizeLine ∧ Nx (upd H5 D (.dK (putK kvs k z))) else Nx H3) := by
  refine ⟨fun i m H => m = xs.length - i ∧ i ≤ xs.length ∧ Pv i H, ⟨xs.length, by simp, Nat.zero_le _, h0⟩, ?_⟩
  rintro i m H ⟨rfl, hi, p⟩
  have q := hl i H hi p
  rcases Nat.lt_or_ge i xs.length with lt | ge
  · refine .inr ⟨⟨xs, xs[i], q, by simp [lt]⟩, Pv (i + 1), fun H' p' => ⟨xs.length - (i + 1), by omega, rfl, lt, p'⟩, fun x H' y => ?_⟩
    obtain ⟨e, y⟩ := y
    subst e
    exact hs i x _ (y xs q) p
  · have e : i = xs.length := by omega
    subst e
    exact .inl ⟨⟨xs, q, Nat.le_refl _⟩, hd H p⟩
/-- {k: v for .. in xs}, xs a list or a tuple that stays -/
theorem dc_seq {K : PySem.W.Frag} {a : Addr} {xs : List V} {g : TG} {tt : TT} {tk tv : TE} {vs : List Nat} {σ : L2.St} {H1 H0 : Hp} {Qd : Addr → Hp → Prop} (hq : SqL K H0 a xs ∨ SqT K H0 a xs) (h1 : Same H0 H1) (Pv : Addr → Nat → Hp → Prop) (h0 : ∀ D, H1 D = none → Pv D 0 (upd H1 D (.dK []))) (hl : ∀ D i H', Pv D i H' → Same H0 H')
    (hs : ∀ D, H1 D = none → ∀ i x H, xs[i]? = some x → Pv D i H → g x (wipe σ vs) H fun σ2 H2 => wipe σ2 vs = wipe σ vs ∧ tt σ2 H2 fun b H3 =>
      if b = true then tk σ2 H3 fun y H4 => tv σ2 H4 fun z H5 => ∃ kvs k, y = kV k ∧ H5 D = some (.dK kvs) ∧ kvs.length < sizeLine ∧ Pv D (i + 1) (upd H5 D (.dK (putK kvs k z))) else Pv D (i + 1) H3) (hd : ∀ D H, H1 D = none → Pv D xs.length H → Qd D H) :
    ((∃ xs, SqL K H1 a xs) ∧ ∀ D, H1 D = none → ∃ W : Nat → Nat → Hp → Prop, (∃ m, W 0 m (upd H1 D (.dK []))) ∧ ∀ i m H, W i m H →
      ((Itl K a).stop i H ∧ Qd D H) ∨ ((Itl K a).go i H ∧ ∃ Nx : Hp → Prop, (∀ H', Nx H' → ∃ m', m' < m ∧ W (i + 1) m' H') ∧ ∀ x H', (Itl K a).yld i H x H' → g x (wipe σ vs) H' fun σ2 H2 => wipe σ2 vs = wipe σ vs ∧ tt σ2 H2 fun b H3 =>
        if b = true then tk σ2 H3 fun y H4 => tv σ2 H4 fun z H5 => ∃ kvs k, y = kV k ∧ H5 D = some (.dK kvs) ∧ kvs.length < sizeLine ∧ Nx (upd H5 D (.dK (putK kvs k z))) else Nx H3)) ∨
    ((∃ xs, SqT K H1 a xs) ∧ ∀ D, H1 D = none → ∃ W : Nat → Nat → Hp → Prop, (∃ m, W 0 m (upd H1 D (.dK []))) ∧ ∀ i m H, W i m H →
      ((Itt K a).stop i H ∧ Qd D H) ∨ ((Itt K a).go i H ∧ ∃ Nx : Hp → Prop, (∀ H', Nx H' → ∃ m', m' < m ∧ W (i + 1) m' H') ∧ ∀ x H', (Itt K a).yld i H x H' → g x (wipe σ vs) H' fun σ2 H2 => wipe σ2 vs = wipe σ vs ∧ tt σ2 H2 fun b H3 =>
        if b = true then tk σ2 H3 fun y H4 => tv σ2 H4 fun z H5 => ∃ kvs k, y = kV k ∧ H5 D = some (.dK kvs) ∧ kvs.length < sizeLine ∧ Nx (upd H5 D (.dK (putK kvs k z))) else Nx H3)) := by
  rcases hq with hq | hq
  · exact .inl ⟨⟨_, h1.seq hq⟩, fun D hD => dc_list (Pv D) (h0 D hD) (fun i H' _ p => (hl D i H' p).seq hq) (hs D hD) fun H p => hd D H hD p⟩
  · exact .inr ⟨⟨_, sqT_on h1 hq⟩, fun D hD => dc_tup (Pv D) (h0 D hD) (fun i H' _ p => sqT_on (hl D i H' p) hq) (hs D hD) fun H p => hd D H hD p⟩
/-- o.m(k1 = a, k2 = b), the names turned round -/
def kSwap {α : Type} : List α → List α → List α
  | [u], [a, b] => [u, b, a]
  | _, _ => []
theorem kbinds_swap {K : PySem.W.Frag} {fd : FuncData} {p0 p1 p2 k1 k2 : Str} (h : ∀ (s : Shared) (u a b : Value), BindsTo s fd ⟨[u], [(k1, a), (k2, b)]⟩ [(p0, u), (p1, b), (p2, a)]) : KBinds K fd [p0, p1, p2] [k1, k2] kSwap kSwap where
  to := fun s us ws _ hl => match us, ws, hl with
    | [u], [a, b], _ => h s u a b
    | [], _, hl => by simp [kSwap] at hl
    | [_], [], hl => by simp [kSwap] at hl
    | [_], [_], hl => by simp [kSwap] at hl
    | [_], _ :: _ :: _ :: _, hl => by simp [kSwap] at hl
    | _ :: _ :: _, _, hl => by simp [kSwap] at hl
  rel := fun {vs us zs ws} r rz => match vs, us, zs, ws, r, rz with
    | [_], [_], [_, _], [_, _], .cons a .nil, .cons b (.cons c .nil) => .cons a (.cons c (.cons b .nil))
    | [], [], _, _, .nil, _ => by simp only [kSwap]; exact .nil
    | [_], [_], [], [], .cons _ .nil, .nil => .nil
    | [_], [_], [_], [_], .cons _ .nil, .cons _ .nil => .nil
    | [_], [_], _ :: _ :: _ :: _, _ :: _ :: _ :: _, .cons _ .nil, .cons _ (.cons _ (.cons _ _)) => .nil
    | _ :: _ :: _, _ :: _ :: _, _, _, .cons _ (.cons _ _), _ => by simp only [kSwap]; exact .nil
end My

/-! My own rule: sorted(xs), xs a list of tuples of three texts. -/
namespace My
open PySem PySem.Spec PyProof.Rows L2
abbrev RowB := Addr × (Str × Str × Str)
def rowE (e : Str × Str × Str) : PyData := .tuple [.str e.1, .str e.2.1, .str e.2.2]
noncomputable def rowLe : RowB → RowB → Bool := PySem.W.dataLe false fun b => rowE b.2
theorem alike_rowE (a b : Str × Str × Str) : PySem.W.alike (rowE a) (rowE b) = true := by
  unfold rowE
  simp [PySem.W.alike, PySem.W.alikeAll]
theorem depth_rowE (a : Str × Str × Str) : (rowE a).depth ≤ 1 := by
  unfold rowE
  simp [PyData.depth, PyData.depthAll]
theorem each_refs {K : PySem.W.Frag} {X : Cx} {pins : List (Addr × Obj)} {σ : L2.St} {H : Hp} {s : Shared} (I : Inv X pins σ H s) : ∀ {bs : List RowB} {us : List Value}, Vals (bs.map fun b => V.ref b.1) us → (∀ b ∈ bs, SqT X.K H b.1 [.str b.2.1, .str b.2.2.1, .str b.2.2.2]) →
    PySem.W.EachIs (fun v b => v = Value.ref b.1) us bs ∧ PySem.W.EachIs (fun v b => ∃ as, Reads s.heap v (rowE b.2) as) us bs
  | [], _, .nil, _ => ⟨.nil, .nil⟩
  | b :: bs, _, .cons r t, h => by
    have r : _ = Value.ref b.1 := r
    subst r
    obtain ⟨e1, e2⟩ := each_refs (K := K) I t fun c hc => h c (List.mem_cons_of_mem _ hc)
    exact ⟨.cons rfl e1, .cons (Dp.reads I _ (V.ref b.1) _ (.tup (h b List.mem_cons_self) (.cons (.str _) (.cons (.str _) (.cons (.str _) .nil)))) rfl) e2⟩
theorem vals_each : ∀ {us : List Value} {bs : List RowB}, PySem.W.EachIs (fun v b => v = Value.ref b.1) us bs → Vals (bs.map fun b => V.ref b.1) us
  | _, _, .nil => .nil
  | _, _, .cons h t => .cons h (vals_each t)
section
variable {X : Cx}
def rSortRows (K : PySem.W.Frag) : List V → Hp → VK → Prop := fun vs H Q => ∃ (a : Addr) (bs : List RowB), vs = [V.ref a] ∧ SqL K H a (bs.map fun b => V.ref b.1) ∧ (∀ b ∈ bs, SqT K H b.1 [.str b.2.1, .str b.2.2.1, .str b.2.2.2]) ∧
  ∀ p, H p = none → Q (.ref p) (upd H p (.lst ((bs.mergeSort rowLe).map fun b => V.ref b.1)))
theorem cr_sortRows (hu : X.A.units + 64 < cLine) : CallR X (.builtin "sorted") (rSortRows X.K) := by
  intro pins s σ H vs us Q I r h
  obtain ⟨a, bs, rfl, hs, hb, q⟩ := h
  obtain ⟨its, rv, hl, hz⟩ := I.list hs
  rw [Vals.ref1 r]
  obtain ⟨e1, e2⟩ := each_refs (K := X.K) I rv hb
  have hlen : bs.length ≤ sizeLine := by rw [List.length_map] at hz; exact hz
  refine PySem.W.sorted_data (enc := fun b : RowB => rowE b.2) hl.isList e1 e2 (PySem.W.AllAlike.of fun b b' => alike_rowE b.2 b'.2) (PySem.W.Sortable.tuples fun b => ⟨_, _, rfl⟩) hlen (fun b _ => by have := depth_rowE b.2; omega) fun out ho e3 => ?_
  obtain ⟨ep, he'⟩ := PyProof.Rows.sortedAll_at s.heap its out.toArray
  have hl2 : ((bs.mergeSort rowLe).map fun b : RowB => V.ref b.1).length ≤ sizeLine := by rw [List.length_map, (List.mergeSort_perm bs rowLe).length_eq]; exact hlen
  exact ⟨.ref _, upd H (s.heap.objs.size + 1) (.lst ((bs.mergeSort rowLe).map fun b => V.ref b.1)), I.laid (t' := s.toks) (fun _ _ => PyProof.Rows.sortedAll_old) (Nat.le_succ _) ⟨hl2, out, ep, vals_each e3, he'⟩, rfl, q _ (I.hok.fresh (Nat.le_succ _))⟩
end
end My

/-! My own rule: for i, x in enumerate(xs, start=k), xs a list, k a whole number that is written there. -/
namespace My
open PySem PySem.Spec PyProof.Rows L2
open PySem.Calls
section
variable {M : Model} {A : Around} {E : Value → Shared → Prop} {s : Shared} {env : Env}
theorem callWith_typeKw {pos : Pos} {T : String} {first : List Value} {args : List (Bool × Sem Value)} {keywords : List (Option Str × Sem Value)} {Q : Value → Shared → Prop}
    (hplain : args.any (·.1) = false) (hkw : keywords.any (·.1.isNone) = false)
    (h : wpAny M A (evalArgs (.type T) true args keywords) (fun a s₁ => wpAny M A (call (.type T) (first ++ a.pos) a.kw) Q E s₁) E s) :
    wpAny M A (callWith pos (.type T) first args keywords) Q E s := by
  unfold callWith
  refine wpAny_bind (wpAny_holding (wpAny_mono h (fun a s₁ h₁ => wpAny_bind (wpAny_standAt ?_)) fun _ _ x => x))
  simp only [hplain, hkw, Bool.or_false]
  refine wpAny_bind (wpAny_pure ?_)
  exact wpAny_bind (wpAny_mono h₁ (fun r s₂ hr => wpAny_bind (wpAny_holding (wpAny_point (wpAny_pure hr)))) fun _ _ x => x)
theorem callWith_typeKw1 {pos : Pos} {T : String} {e : Expr} {rest : List Expr} {kws : List Keyword} {Q : Value → Shared → Prop}
    (h : wpAny M A (spliced (backTo pos (starEach (e :: rest) env))) (fun vs s₁ => wpAny M A (evalAll ((backToKw pos (keywordEach kws env)).map (·.2)))
      (fun kvs s₂ => wpAny M A (call (.type T) vs (((backToKw pos (keywordEach kws env)).filterMap (·.1)).zip kvs)) Q E s₂) E s₁) E s)
    (he : backTo pos (starEach (e :: rest) env) = (false, eval e env) :: backTo pos (starEach rest env) := by rfl)
    (hplain : (backTo pos (starEach (e :: rest) env)).any (·.1) = false := by rfl)
    (hall : (backToKw pos (keywordEach kws env)).all (·.1.isSome) = true := by rfl)
    (hkw : (backToKw pos (keywordEach kws env)).any (·.1.isNone) = false := by rfl) :
    wpAny M A (callWith pos (.type T) [] (backTo pos (starEach (e :: rest) env)) (backToKw pos (keywordEach kws env))) Q E s := by
  refine callWith_typeKw hplain hkw ?_
  rw [he] at h ⊢
  exact evalArgs_kwB hall h
end
/-- a list's items from its first, each with its number, the first one's being k -/
def ItS (K : PySem.W.Frag) (a : Addr) (k : Int) : It where
  go i H := ∃ ys v, SqL K H a ys ∧ ys[i]? = some v
  yld i H v H' := ∃ (pr : Addr) (z : V), v = V.ref pr ∧ H pr = none ∧ H' = upd H pr (HO.tup [V.int (k + (i : Int)), z]) ∧ ∀ ys, SqL K H a ys → ys[i]? = some z
  stop i H := ∃ ys : List V, SqL K H a ys ∧ ys.length ≤ i
/-- the counter at c over the list's iterator at j, at its i-th turn -/
def CntAt (c j a : Addr) (k : Int) (i : Nat) (h : Heap) : Prop := c ≠ j ∧ h.IsListIter j a i ∧ ∃ last, IsEnum h c j (k + (i : Int)) last
theorem two_cells {α : Type} {p : α → Prop} {x y : α} (hx : p x) (hy : p y) : ∀ b ∈ [x, y], p b := by
  simp only [List.mem_cons, List.not_mem_nil, or_false]
  rintro b (rfl | rfl)
  · exact hx
  · exact hy
theorem turn_count {P : Program} {w : World} {K : PySem.W.Frag} {es : List Expr} {n : Nat} {ps : Pos} (a c j : Addr) (k : Int) :
    Turn P w K (.Tuple es n ps) (ItS K a k) [c, j] c (CntAt c j a k) where
  mem := List.mem_cons_self
  obj i h st := two_cells (p := fun b => ∃ o, h.get? b = some o ∧ ∀ v, o.data ≠ .cell v) ⟨_, st.2.2.choose_spec, fun _ q => nomatch q⟩ (by
    obtain ⟨o, h1, _, h2⟩ := st.2.1
    exact ⟨o, h1, fun _ q => by rw [h2] at q; nomatch q⟩)
  keep i h h' st f := ⟨st.1, st.2.1.at fun o => f j (by simp) o, st.2.2.imp fun l q => f c (by simp) _ q⟩
  item := by
    rintro X rfl rfl rfl calm i pins s σ H E I low ⟨cj, hj, l, hc⟩ ⟨ys, v, hys, hv⟩
    obtain ⟨arr, rel, lst, _⟩ := I.list hys
    obtain ⟨u, hu, ruv⟩ := rel.get hv
    have aj : a ≠ j := fun z => by
      obtain ⟨o1, g1, k1, _⟩ := hj
      obtain ⟨o2, g2, k2, _⟩ := lst.isList
      rw [z, g1] at g2
      rw [Option.some.inj g2, k2] at k1
      revert k1
      decide
    have lc := Heap.lt_size hc
    have lj : j < s.heap.objs.size := let ⟨_, q, _⟩ := hj; Heap.lt_size q
    have ca : c ≠ a := fun z => by
      obtain ⟨o2, g2, k2, _⟩ := lst.isList
      have g1 := (show s.heap.get? c = _ from hc)
      rw [z, g2] at g1
      rw [Option.some.inj g1] at k2
      exact absurd (Value.type.inj k2) (by decide)
    have la : c ∉ [j, a] := by simp [cj, ca]
    refine wpAny_pyNext_enum_itemC (Draws.list (A := X.A.in1) (I.ok.hd calm) j a aj arr.toArray) hc ⟨hj, lst.isList⟩ ?_ cj la ?_
    · have := (List.getElem?_eq_some_iff.mp hu).1
      simpa using this
    intro x h1 tk hx out st1 new sz oth
    obtain rfl : u = x := by
      have hx : arr.toArray[i]? = some x := hx
      rw [List.getElem?_toArray, hu] at hx
      exact Option.some.inj hx
    refine ⟨_, rfl, wpAny_letOwnedTupleGo_enum (s := { s with heap := h1, toks := tk + 1 }) out fun h2 cnt same => ?_⟩
    have got : h2.get? s.heap.objs.size = some { cls := .type "tuple", data := .seq #[.int (k + (i : Int)) tk, u] } := (same.2 _ (Nat.ne_of_gt lc)).trans new
    have stays : ∀ b o, b ∉ [c, j] → s.heap.get? b = some o → h2.get? b = some o := fun b o hb q => by
      simp only [List.mem_cons, List.not_mem_nil, or_false, not_or] at hb
      exact (same.2 b hb.1).trans (oth b o hb.1 hb.2 q)
    have mine : ObjOk X.prog X.w (upd H s.heap.objs.size (HO.tup [V.int (k + (i : Int)), v])) h2 s.heap.objs.size (HO.tup [V.int (k + (i : Int)), v]) := ⟨by show 2 ≤ sizeLine; decide, _, .cons ⟨_, rfl⟩ (.cons ruv .nil), ⟨_, got, rfl, _, rfl⟩⟩
    have I2 := I.turnedNew (t' := tk + 1) stays low (Nat.le_refl _) mine
    exact ⟨V.ref s.heap.objs.size, _, I2, rfl, ⟨_, v, rfl, I.hok.fresh (Nat.le_refl _), rfl, fun zs hzs => by rw [I.list_inj hzs hys]; exact hv⟩, ⟨cj, st1.1.at fun o q => (same.2 j (Ne.symm cj)).trans q, u, by rw [show k + ((i + 1 : Nat) : Int) = k + (i : Int) + 1 by omega]; exact cnt⟩, two_cells (p := fun b => (upd H s.heap.objs.size _) b = none) (by rw [upd_ne (Nat.ne_of_lt lc)]; exact (low c (by simp)).1) (by rw [upd_ne (Nat.ne_of_lt lj)]; exact (low j (by simp)).1)⟩
  done := by
    rintro X rfl rfl rfl calm i pins s σ H E I low ⟨cj, hj, l, hc⟩ ⟨ys, hys, hle⟩
    obtain ⟨arr, rel, lst, _⟩ := I.list hys
    have aj : a ≠ j := fun z => by
      obtain ⟨o1, g1, k1, _⟩ := hj
      obtain ⟨o2, g2, k2, _⟩ := lst.isList
      rw [z, g1] at g2
      rw [Option.some.inj g2, k2] at k1
      revert k1
      decide
    have over : arr.toArray[i]? = none := by
      rw [List.getElem?_toArray, List.getElem?_eq_none_iff, ← rel.length]
      exact hle
    obtain ⟨f0, f1, f2, f3, f4, f5⟩ := low j (by simp)
    have D : Draws X.prog X.w X.A.in1 j [j, a] i (fun _ _ => True) (fun m h => m = i ∧ h.IsListIter j a m ∧ h.IsList a arr.toArray) :=
      { live := fun m h st => let ⟨o, g, _⟩ := st.2.1; ⟨o, g⟩
        frame := fun m h h' st f => ⟨st.1, st.2.1.at fun o => f j (by simp) o, st.2.2.at fun o => f a (by simp) o⟩
        item := fun m _ _ _ hm st _ => absurd st.1 (Nat.ne_of_lt hm)
        done := fun s' Q' E' st hE => wpAny_nextOf_list_end (I.ok.hd calm) st.2.1 st.2.2 (by rw [st.1]; exact over) hE }
    exact wpAny_pyNext_enum_endD D hc ⟨rfl, hj, lst.isList⟩ fun h' eb => ⟨rfl, I.turned (t' := s.toks) eb f0 f1 f3 f4 f5⟩
  self A i s Q E st q := wpAny_pyIter_enum st.2.2.choose_spec q
def iEnumS (K : PySem.W.Frag) (k : Int) (ta : TA) : TI := fun σ H R => ta σ H fun vs H1 => ∃ a xs, vs = [.ref a] ∧ SqL K H1 a xs ∧ R (ItS K a k) H1
theorem pi_enumS {X : Cx} {e : Expr} {ta : TA} {p pos tpos kp cp : Pos} {elts : List Expr} {kk : Nat} {k : Int} {c : Nat} (hg : Gl X "enumerate") (hm : X.mg "enumerate" = none) (ha : PA X [e] ta) (hk0 : -(2 ^ 63) ≤ k) (hk1 : k < 2 ^ 63) (he : backTo pos (starEach [e] X.env) = (false, eval e X.env) :: backTo pos (starEach [] X.env) := by rfl) (hpl : (backTo pos (starEach [e] X.env)).any (·.1) = false := by rfl) :
    PI X (.Tuple elts kk tpos) (.Call (.Name "enumerate" p) [e] [⟨some "start", .Constant (.int k) c cp, kp⟩] pos) (iEnumS X.K k ta) := by
  refine ⟨fun pins s σ H R I h => ?_⟩
  refine wpAny_Call_Name_kw (ld_blt I hg hm boot_enumerate ?_)
  refine callWith_typeKw1 (thn (ha.run pos pins s σ H _ I h) fun us s1 ⟨vs, H1, I1, r1, q1⟩ => ?_) he hpl
  obtain ⟨a, xs, ex, hq, q⟩ := q1
  subst ex
  cases r1 with
  | cons r rr =>
    cases rr
    cases r
    obtain ⟨arr, rel, lst, _⟩ := I1.list hq
    refine kwAll_cons (thn ((pe_int (X := X)).run pins s1 σ H1 (fun x H' => x = V.int k ∧ H' = H1) I1 ⟨rfl, rfl⟩) fun u s2 ⟨y, H2, I2, ry, ey, eh⟩ => ?_)
    subst ey eh
    obtain ⟨t, rfl⟩ := ry
    refine kwAll_nil ?_
    show wpAny _ _ (call (.type "enumerate") [.ref a] [(Str.ofString "start", .int k t)]) _ _ _
    obtain ⟨arr2, rel2, lst2, _⟩ := I2.list hq
    refine enum_begins_start (begins_list a arr2.toArray) lst2.isList hk0 hk1 fun h' cnt at0 sz old => wpAny_pyIter_enum cnt ?_
    refine ⟨s2.heap.objs.size + 1, [s2.heap.objs.size + 1, s2.heap.objs.size], _, _, H2, rfl, I2.kept (t' := s2.toks) old, turn_count a (s2.heap.objs.size + 1) s2.heap.objs.size k, ⟨Nat.succ_ne_self _, ⟨_, at0, rfl, rfl⟩, _, by rw [show k + ((0 : Nat) : Int) = k from Int.add_zero k]; exact cnt⟩, ?_, q⟩
    exact two_cells (p := fun b => FpOk X pins H2 b) (I2.fpOk (Nat.le_succ _) (I2.hok.fresh (Nat.le_succ _))) (I2.fpOk (Nat.le_refl _) (I2.hok.fresh (Nat.le_refl _)))
end My

/-! My own rule: o == a text, o an instance whose class has its own __eq__. -/
namespace My
open PySem PySem.Spec PyProof.Rows L2
section
variable {X : Cx} {k : Nat} {C f : Addr} {fd : FuncData} {ps : List Str} {sp : Sp} {CX : CXT} {E : XK}
def rOS (C : Addr) (sp : Sp) (E : XK) : R2 := fun x y H Q => ∃ a dx fs z, x = .ref a ∧ y = .str z ∧ H a = some (.ins C dx fs) ∧ sp [.ref a, .str z] H Q E
theorem cmp_ownS (O : OthC X.K C f) (hn : PySem.W.subIn X.K (.type "str") (.ref C) = some false) (F : FnOk X.prog X.w X.K X.mg X.base CX k f fd ps sp) (hr : Room k X.A) (hb : Binds X.K fd ps []) (hx : Passes CX X E) : OpR X (compareOp .Eq) (rOS C sp E) := by
  intro pins s σ H x y v u Q I rx ry h
  obtain ⟨a, dx, fs, z, rfl, rfl, ea, q⟩ := h
  obtain rfl : v = Value.ref a := rx
  obtain ⟨t, rfl⟩ := ry
  obtain ⟨mA, J, _⟩ := ins_get I.hok ea
  obtain ⟨od, J, _⟩ := J.look
  obtain ⟨m, hF⟩ := I.fr
  show wpAny (model X.prog X.w) X.A (richCompare .Eq (.ref a) (.str z t)) (EP X pins σ Q) X.xe s
  refine PySem.W.cmp_K (op := .Eq) (tb := .type "str") hr.units0 hF I.ok.mod.kin J (PySem.W.Looks.of_pure rfl) ?_ O.eq O.fn ?_
  · simp [PySem.W.notFirst, hn]
  · exact wpAny_mono (run_own (vs := [V.ref a, V.str z]) F hr hb hx I (.cons rfl (.cons ⟨t, rfl⟩ .nil)) q) (fun _ _ w => back_of w) fun _ _ e => e
end
end My

set_option maxHeartbeats 2000000
/-! My own rules: a def that raises nothing called within an except suite (k not in o there); xs.append(v) within a try. -/
namespace My
open PySem PySem.Spec PyProof.Rows L2
/-- what a def that raises nothing promises, whatever is being handled -/
structure FnC (P : Program) (w : World) (K : PySem.W.Frag) (mg : Str → Option Value) (base : Heap) (k : Nat) (f : Addr) (fd : FuncData) (ps : List Str) (sp : Sp) : Prop where
  lens : ∀ vs H Q E, sp vs H Q E → vs.length = ps.length
  runs : ∀ (A : Around) (outer : List Env) (s : Shared) (H : Hp) (args : Args) (us : List Value) (vs : List V) (Q : VK), L2H.RoomH k A → Env0 P w K mg base A outer s H → BindsTo s fd args (ps.zip us) → Vals vs us → sp vs H Q E0 → codeAny (model P w) A (.call (.ref f) args) (CR CX0 outer P w H s Q E0) s
/-- the context of its body -/
def cxC (P : Program) (w : World) (K : PySem.W.Frag) (mg : Str → Option Value) (base : Heap) (N : List Str) (qual : Str) (scope : Scope) (f : Addr) (cd : Value) (A : Around) (outer : List Env) (s : Shared) (H : Hp) : Cx :=
  { cxOf CX0 P w K mg base N qual scope f cd A outer s H E0 with calm := false, xe := fun _ _ => False }
theorem inv_cold {P : Program} {w : World} {K : PySem.W.Frag} {mg : Str → Option Value} {base : Heap} {N ps : List Str} {qual : Str} {scope : Scope} {f : Addr} {cd : Value} {A : Around} {outer : List Env} {s s1 : Shared} {H : Hp} {us : List Value} {vs : List V}
    (S : FnScope N ps scope) (e : Env0 P w K mg base A outer s H) (hl : vs.length = ps.length) (r : Vals vs us)
    (x : InCallC s s.heap.objs.size (bindL (envOfC qual scope s.heap.objs.size f cd).kindOf (ps.zip us) fun _ => none) (cellsFrom (s.heap.objs.size + 1) scope.names []) (bindC (envOfC qual scope s.heap.objs.size f cd).kindOf (ps.zip us) fun _ => none) s1) :
    Inv (cxC P w K mg base N qual scope f cd A outer s H) [] (L2.start N vs) H s1 := by
  have I := inv_start (CX := CX0) (E := E0) (f := f) (cd := cd) (A := { A with handled := none }) S rfl ⟨e.frames, e.mod, e.bs, e.bsz, e.funs, e.frf, e.hok, e.bare⟩ hl r x
  have o := I.ok
  exact ⟨⟨o.mod, o.kind, o.glob, o.blt, o.above, o.inj, o.has, o.cab, (fun z => nomatch z), o.frames, o.stk, o.exf, o.bs, o.bsz, o.noex, o.exfs, o.funs, o.frf⟩, I.os, I.bare, I.base, I.loc, I.cell, I.free, I.freeC, I.pin, I.hok, I.len⟩
theorem okC {P : Program} {w : World} {K : PySem.W.Frag} {mg : Str → Option Value} {base : Heap} {x qual : Str} {st : Stmt} {f : Addr} {fd : FuncData} {N ps : List Str} {k : Nat} {sp : Sp} (F : Fun K x qual st f fd) (S : FnScope N ps (defScope st)) (len : ∀ vs H Q E, sp vs H Q E → vs.length = ps.length)
    (hbody : ∀ (cdv : Value) (A : Around) (outer : List Env) (s : Shared) (H : Hp) (vs : List V) (Q : VK), L2H.RoomH k (A.deeper (envOfC qual (defScope st) s.heap.objs.size f cdv)) → sp vs H Q E0 →
      ∃ t, PSs (cxC P w K mg base N qual (defScope st) f cdv A outer s H) (defBody st) t ∧ t { nx := fun _ H' => Q .non H', rt := Q } (L2.start N vs) H) : FnC P w K mg base (k + 1) f fd ps sp := by
  obtain ⟨oc, od, kV, doc, pm, an, cdv, ct, osl, rfl, lk, hcd⟩ := F.ex
  refine ⟨len, fun A outer s H args us vs Q room e0 hb r hs => ?_⟩
  have inK : K.In s.heap := e0.mod.kin.keeps fun b o z => (e0.bs b o z).1
  have noL : s.heap.NoLimit := e0.mod.nolimit.keeps fun b o z => (e0.bs b o z).1
  refine codeAny_call_function room.depth (inK _ _ lk) rfl S.co S.gen rfl (PySem.W.codeRec_of inK hcd) (hb _ _ _ _ ?_)
  refine wpAny_newFunctionEnv_cells S.kind (fun ⟨n, v⟩ hy => ?_) fun env he s1 x => ?_
  · rcases S.par n (List.of_mem_zip hy).1 with q | q
    · exact .inl q
    · exact .inr ⟨q, PySem.W.cellsFrom_some _ _ _ (.inl q)⟩
  subst he
  refine ⟨noL.keeps x.toInCall.keep, codeAny_func ?_⟩
  obtain ⟨t, ht, hq⟩ := hbody cdv A outer s H vs Q (room.deeper _) hs
  have I := inv_cold (f := f) (cd := cdv) (A := A) S e0 (len _ _ _ _ hs) r x
  refine wpAny_mono (ht.run [] s1 (L2.start N vs) H _ I hq) (fun fl s' h2 => ?_) fun _ _ z => z.elim
  cases fl with
  | ret u =>
    obtain ⟨v, σ', H', J, rv, q⟩ := h2
    exact ⟨v, H', J.os, J.bare, J.base, J.hok, rv, q⟩
  | next =>
    obtain ⟨σ', H', J, q⟩ := h2
    exact ⟨.non, H', J.os, J.bare, J.base, J.hok, rfl, q⟩
  | brk =>
    obtain ⟨_, _, _, q⟩ := h2
    exact q.elim
  | cont =>
    obtain ⟨_, _, _, q⟩ := h2
    exact q.elim
section
variable {X : Cx} {k : Nat} {C f : Addr} {fd : FuncData} {ps : List Str} {sp : Sp}
theorem run_cold {pins : List (Addr × Obj)} {s : Shared} {σ : L2.St} {H : Hp} {Q : VK} {us : List Value} {vs : List V} (F : FnC X.prog X.w X.K X.mg X.base k f fd ps sp) (hr : L2H.RoomH k X.A) (hb : Binds X.K fd ps [])
    (I : Inv X pins σ H s) (r : Vals vs us) (h : sp vs H Q E0) : wpAny (model X.prog X.w) X.A (call (.ref f) us) (EP X pins σ Q) X.xe s := by
  have b := hb s us I.kIn (by rw [List.append_nil, ← F.lens _ _ _ _ h]; exact r.length.symm)
  rw [List.append_nil] at b
  refine wpAny_call (codeAny_mono (F.runs X.A X.stack s H ⟨us, []⟩ us vs _ hr I.env0 b r h) fun r s' hq => ?_)
  cases r with
  | error e => exact False.elim hq
  | ok fl =>
    cases fl with
    | ret w => exact I.after hq
    | next => exact False.elim hq
    | brk => exact False.elim hq
    | cont => exact False.elim hq
theorem op_notInC (D : DunC X.K C "__contains__" f) (F : FnC X.prog X.w X.K X.mg X.base k f fd ps sp) (hr : L2H.RoomH k X.A) (hb : Binds X.K fd ps []) : OpR X (compareOp .NotIn) (rInI C sp E0 true) := by
  intro pins s σ H x y v u Q I rx ry h
  obtain ⟨p, dx, fs, rfl, ea, q⟩ := h
  obtain rfl : u = Value.ref p := ry
  obtain ⟨mA, J, _⟩ := ins_get I.hok ea
  obtain ⟨od, J, _⟩ := J.look
  obtain ⟨m, hF⟩ := I.fr
  refine PySem.W.notIn_K hF I.ok.mod.kin J D.at_ D.fn (wpAny_mono (run_cold (vs := [V.ref p, x]) F hr hb I (.cons rfl (.cons rx .nil)) q) (fun r s' hr' => ?_) fun _ _ e => e)
  obtain ⟨z, H2, I2, rz, b, ez, q2⟩ := hr'
  subst ez
  obtain rfl : r = Value.bool b := rz
  exact wpAny_truthy_bool ⟨.bl (!b), H2, I2, rfl, q2⟩
end
theorem huH {A : Around} {k : Nat} (hr : L2H.RoomH k A) : A.units + 1 < cLine := by have := hr.un; omega
theorem roomC {k : Nat} {A : Around} (r : Room k A) (h : Option Value) : L2H.RoomH k (A.mark h) := ⟨r.dp, r.un⟩
/-- xs.append(v) within a try: what it asks names the outer context's kinds -/
theorem pe_bmT {X : Cx} {pn : List (Addr × Obj)} {xe : Value → Shared → Prop} {T : String} {name : Str} {o e : Expr} {es : List Expr} {to : TE} {t : TA} {r : V → List V → Hp → VK → Prop} {apos cpos : Pos} (h : PE (X.tr pn xe) (.Call (.Attribute o name apos) (e :: es) [] cpos) (tBM (X.tr pn xe).K T r to t)) :
    PE (X.tr pn xe) (.Call (.Attribute o name apos) (e :: es) [] cpos) (tBM X.K T r to t) := h
/-- is not, of truth values -/
def rNotB : R2 := fun x y H Q => ∃ a b, x = V.bl a ∧ y = V.bl b ∧ Q (.bl (a != b)) H
theorem op_notB {X : Cx} : OpR X (compareOp .IsNot) rNotB := by
  intro pins s σ H x y v u Q I rx ry h
  obtain ⟨a, b, rfl, rfl, q⟩ := h
  obtain rfl : v = Value.bool a := rx
  obtain rfl : u = Value.bool b := ry
  exact wpAny_isNot_plain rfl (fin_bl I q (by cases a <;> cases b <;> rfl))
end My

/-! My own rule: lists != whose items are the same objects or equal data, one by one. -/
namespace My
open PySem PySem.Spec PyProof.Rows L2
/-- the same object, or equal data -/
inductive EqV (K : PySem.W.Frag) (H : Hp) : V → V → Prop
  | same (a : Addr) : EqV K H (.ref a) (.ref a)
  | data {x y : V} {d e : PyData} : Dp K H x d → Dp K H y e → SeqAt.shaped d = true → SeqAt.shaped e = true → PyData.eqv d e = true → EqV K H x y
def rNeMix (K : PySem.W.Frag) : R2 := fun x y H Q => ∃ a b xs ys, x = V.ref a ∧ y = V.ref b ∧ SqL K H a xs ∧ SqL K H b ys ∧ Paired (EqV K H) xs ys ∧ Q (.bl false) H
theorem op_neMix {X : Cx} (hu : X.A.units + 128 < cLine) : OpR X (compareOp .NotEq) (rNeMix X.K) := by
  intro pins s σ H x y v u Q I rx ry h
  obtain ⟨a, b, xs, ys, rfl, rfl, ha, hb, hp, q⟩ := h
  obtain rfl : v = Value.ref a := rx
  obtain rfl : u = Value.ref b := ry
  obtain ⟨as, ra, pa, za⟩ := I.list ha
  obtain ⟨bs, rb, pb, zb⟩ := I.list hb
  have la : as.length = xs.length := ra.length.symm
  have lb : bs.length = ys.length := rb.length.symm
  have lab : xs.length = ys.length := hp.length
  show wpAny (model X.prog X.w) X.A (richCompare .NotEq (.ref a) (.ref b)) (EP X pins σ Q) X.xe s
  refine SeqAt.RcNeAt.lists (e := fun _ => true) pa.isList pb.isList (by simp; omega) (by omega) (fun j h1 h2 => ?_) X.prog X.w _ _ (fin_bl I q (by simp))
  have i1 : j < xs.length := by simp at h1; omega
  have i2 : j < ys.length := by omega
  obtain ⟨u1, g1, r1⟩ := ra.get (List.getElem?_eq_getElem i1)
  obtain ⟨u2, g2, r2⟩ := rb.get (List.getElem?_eq_getElem i2)
  have e1 : as.toArray[j] = u1 := by
    have := (List.getElem?_eq_some_iff.mp g1).2
    simpa using this
  have e2 : bs.toArray[j] = u2 := by
    have := (List.getElem?_eq_some_iff.mp g2).2
    simpa using this
  rw [e1, e2]
  obtain ⟨y2, hy2, he⟩ := L2.paired_get hp (List.getElem?_eq_getElem i1)
  rw [List.getElem?_eq_getElem i2] at hy2
  obtain rfl := Option.some.inj hy2
  generalize hxj : xs[j] = xv at he r1
  generalize hyj : ys[j] = yv at he r2
  cases he with
  | same c =>
    obtain rfl : u1 = Value.ref c := r1
    obtain rfl : u2 = Value.ref c := r2
    exact SeqAt.EqAt.same _
  | @data _ _ d e hd hd2 sd se hq =>
    obtain ⟨_, R1⟩ := Dp.reads I d xv u1 hd r1
    obtain ⟨_, R2⟩ := Dp.reads I e yv u2 hd2 r2
    have := SeqAt.eqAt_reads d e X.A.in1 s u1 u2 _ _ R1 R2 (SeqAt.canLay_of_shaped sd) (SeqAt.canLay_of_shaped se) (SeqAt.room_of_shaped sd (by show X.A.units + 1 + 64 < cLine; omega))
    rw [hq] at this
    exact this
end My

/-! My own rules: == of dicts of instances with an own ==; != of an instance and an integer. -/
namespace My
open PySem PySem.Spec PyProof.Rows L2
section
open PySem.Calls PyProof.V
variable {prog : Program} {w : World} {K : Type} [DecidableEq K] {knd : KeyKind prog w K} {A : Around} {E : Value → Shared → Prop} {s : Shared}
theorem samePairsB {nm : String} {a b : Addr} {ka kb : List (K × Value)} {oa ob : Obj} {r : Bool} {Q : Bool → Shared → Prop} (t : Nat → Bool) (I : Shared → Prop) (ha : (a == sysModules) = false) (hb : (b == sysModules) = false)
    (da : s.heap.DictOf knd a ka) (db : s.heap.DictOf knd b kb) (keep : ∀ s', I s' → s'.heap.get? a = some oa ∧ s'.heap.get? b = some ob)
    (hit : ∀ i k v, ka[i]? = some (k, v) → (valueAt kb k = none ∧ t i = false) ∨ ∃ y, valueAt kb k = some y ∧ ∀ s', I s' → wpAny (model prog w) A (eqBool v y) (fun e s2 => e = t i ∧ I s2) E s')
    (hr : r = true ↔ ka.length = kb.length ∧ ∀ i, i < ka.length → t i = true) (h : ∀ s', I s' → Q r s') (h0 : I s) :
    wpAny (model prog w) A (Builtin.Dict.samePairs nm a b) Q E s := by
  obtain ⟨oa', es, ep, hoa, hxa, hda, hka, hpa, _⟩ := da
  obtain ⟨ob', es', ep', hob, hxb, hdb, hkb, hpb, _⟩ := db
  obtain ⟨ka0, kb0⟩ := keep s h0
  rw [hoa] at ka0
  rw [hob] at kb0
  obtain rfl := Option.some.inj ka0
  obtain rfl := Option.some.inj kb0
  have hla : ka.length = es.size := by rw [← hpa.length]; exact Array.length_toList
  have hlb : kb.length = es'.size := by rw [← hpb.length]; exact Array.length_toList
  have hfind : ∀ k, findBy knd.is es' k = valueAt kb k := fun k => by
    rw [← hpb.find k]
    clear hlb hpb hkb hdb hob
    obtain ⟨l⟩ := es'
    simp [findBy]
  unfold Builtin.Dict.samePairs Builtin.Dict.showsAll
  rw [if_neg (show ¬ (a == sysModules) = true by rw [ha]; exact Bool.false_ne_true), if_neg (show ¬ (b == sysModules) = true by rw [hb]; exact Bool.false_ne_true)]
  refine wpAny_bind (wpAny_pure (wpAny_bind (wpAny_pure ?_)))
  refine wpAny_bind (wpAny_dictEntries hoa hda ?_)
  dsimp only
  refine wpAny_bind (wpAny_dictEntries hob hdb ?_)
  by_cases hsz : es.size = es'.size
  case neg =>
    rw [if_pos (by simpa using hsz)]
    have hrf : r = false := by
      rw [← Bool.not_eq_true, hr]
      rintro ⟨z, _⟩
      exact hsz (by rw [← hla, ← hlb, z])
    have := h s h0
    rw [hrf] at this
    exact wpAny_bind (wpAny_rule (wpAny_pure this))
  case pos =>
    rw [if_neg (by rw [hsz]; simp)]
    refine wpAny_bind (wpAny_dictEpoch hoa hda ?_)
    refine wpAny_bind ?_
    rw [Std.Legacy.Range.forIn_eq_forIn_range']
    simp only [Std.Legacy.Range.size, Nat.sub_zero, Nat.add_sub_cancel, Nat.div_one]
    refine wpAny_forIn_list _
      (fun rest q s' => I s' ∧ q = (none, ()) ∧ ∃ i, rest = List.range' i (es.size - i) ∧ i ≤ es.size ∧ ∀ j, j < i → t j = true)
      _ ?_ ?_ _ _ ⟨h0, rfl, 0, by simp, Nat.zero_le _, fun j hj => absurd hj (Nat.not_lt_zero _)⟩
    · rintro x rest q s' ⟨hI, rfl, i, hrs, hi, hall⟩
      obtain ⟨hoa, hob⟩ := keep s' hI
      have hlt : i < es.size := by
        rcases Nat.lt_or_ge i es.size with h | h
        · exact h
        · rw [Nat.sub_eq_zero_of_le h] at hrs; simp at hrs
      obtain ⟨rfl, hrest⟩ : x = i ∧ rest = List.range' (i + 1) (es.size - (i + 1)) := by
        have e : es.size - i = (es.size - (i + 1)) + 1 := by omega
        rw [e, List.range'_succ] at hrs
        injection hrs with h1 h2
        exact ⟨h1, h2⟩
      refine wpAny_bind (wpAny_dictEntries hoa hda ?_)
      rw [Array.getElem?_eq_getElem hlt]
      have hlt' : x < ka.length := by rw [hla]; exact hlt
      obtain ⟨k, v, hkv⟩ : ∃ k v, ka[x] = (k, v) := ⟨_, _, rfl⟩
      obtain ⟨hkey, hval⟩ := hpa.get? (i := x) (e := es[x]) (k := k) (v := v) (by rw [Array.getElem?_toList]; exact Array.getElem?_eq_getElem hlt) (by rw [List.getElem?_eq_getElem hlt', hkv])
      obtain ⟨k', hk', hh⟩ := hka es[x] (Array.getElem_mem hlt)
      have ekk : k' = k := knd.inj _ _ _ hk' hkey
      rw [ekk] at hh
      have hx := hit x k v (by rw [List.getElem?_eq_getElem hlt', hkv])
      show wpAny _ _ (holding [es[x].key, es[x].val] _ >>= _) _ _ _
      rw [hh]
      refine wpAny_bind (wpAny_holding (wpAny_bind (wpAny_dictFind_of hkey hob hdb hkb ?_)))
      have rF : t x = false → Q false s' := fun e => by
        have hrf : r = false := by
          rw [← Bool.not_eq_true, hr]
          rintro ⟨_, z⟩
          have := z x hlt'
          rw [e] at this
          cases this
        have := h s' hI
        rw [hrf] at this
        exact this
      cases hj : es'.findIdx? fun e => knd.is k e.key with
      | none =>
        have hn : valueAt kb k = none := by rw [← hfind k, findBy_of_findIdx?, hj]
        rcases hx with ⟨_, er⟩ | ⟨y, hy, _⟩
        · refine wpAny_pure ?_
          show wpAny _ _ (if (!false) = true then _ else _) _ _ _
          rw [if_pos (by decide)]
          exact wpAny_pure (wpAny_pure (rF er))
        · rw [hn] at hy; exact nomatch hy
      | some j =>
        obtain ⟨hjlt, _, _⟩ := Array.findIdx?_eq_some_iff_getElem.mp hj
        have hv' : valueAt kb k = some es'[j].val := by
          rw [← hfind k, findBy_of_findIdx?, hj]
          simp [Array.getElem?_eq_getElem hjlt]
        refine wpAny_bind (wpAny_dictEntries hob hdb ?_)
        rw [Array.getElem?_eq_getElem hjlt]
        rcases hx with ⟨hn, _⟩ | ⟨y, hy, he⟩
        · rw [hv'] at hn; exact nomatch hn
        · have ey : es'[j].val = y := Option.some.inj (hv'.symm.trans hy)
          rw [← ey, ← hval] at he
          refine wpAny_holding (wpAny_mono (he s' hI) (fun e s2 ⟨h1, h2⟩ => ?_) fun _ _ z => z)
          obtain ⟨hoa2, hob2⟩ := keep s2 h2
          cases ht : t x with
          | false =>
            rw [ht] at h1
            subst h1
            show wpAny _ _ (if (!false) = true then _ else _) _ _ _
            rw [if_pos (by decide)]
            have hrf : r = false := by
              rw [← Bool.not_eq_true, hr]
              rintro ⟨_, z⟩
              have := z x hlt'
              rw [ht] at this
              cases this
            have := h s2 h2
            rw [hrf] at this
            exact wpAny_pure (wpAny_pure this)
          | true =>
            rw [ht] at h1
            subst h1
            show wpAny _ _ (if (!true) = true then _ else _) _ _ _
            rw [if_neg (by decide)]
            refine wpAny_bind (wpAny_dictEpoch hoa2 hda ?_)
            rw [if_neg (by simp)]
            exact wpAny_pure ⟨h2, rfl, x + 1, hrest, hlt, fun j hj => by
              by_cases e : j = x
              · rw [e]; exact ht
              · exact hall j (by omega)⟩
    · rintro q s' ⟨hI, rfl, i, hrs, hi, hall⟩
      have hin : i = es.size := by
        rcases Nat.lt_or_ge i es.size with h | h
        · have e : es.size - i = (es.size - (i + 1)) + 1 := by omega
          rw [e, List.range'_succ] at hrs; exact nomatch hrs
        · exact Nat.le_antisymm hi h
      refine wpAny_pure ?_
      have hrt : r = true := hr.mpr ⟨by rw [hla, hlb, hsz], fun j hj => hall j (by rw [hin, ← hla]; exact hj)⟩
      have := h s' hI
      rw [hrt] at this
      exact this
theorem dict_eqB {a b : Addr} {ka kb : List (K × Value)} {oa ob : Obj} {r : Bool} {Q : Value → Shared → Prop} (t : Nat → Bool) (I : Shared → Prop) (ha : (a == sysModules) = false) (hb : (b == sysModules) = false)
    (da : s.heap.DictOf knd a ka) (db : s.heap.DictOf knd b kb) (hu : A.units < cLine) (keep : ∀ s', I s' → s'.heap.get? a = some oa ∧ s'.heap.get? b = some ob)
    (hit : ∀ i k v, ka[i]? = some (k, v) → (valueAt kb k = none ∧ t i = false) ∨ ∃ y, valueAt kb k = some y ∧ ∀ s', I s' → wpAny (model prog w) A.in1 (eqBool v y) (fun e s2 => e = t i ∧ I s2) E s')
    (hr : r = true ↔ ka.length = kb.length ∧ ∀ i, i < ka.length → t i = true) (h : ∀ s', I s' → Q (.bool r) s') (h0 : I s) :
    wpAny (model prog w) A (compareOp .Eq (.ref a) (.ref b)) Q E s := by
  refine wpAny_richCompare_same_room (op := .Eq) da.typeIs db.typeIs PySem.F.slot_dict_eq (wpAny_call_entry PySem.F.slot_dict_eq da.typeIs PySem.F.entry_dict_eq ?_ (PySem.F.args_dict_eq_2 _ _)) hu
  show wpAny _ _ (Builtin.Dict.dictSlotArgs "__eq__" ⟨[.ref a, .ref b], []⟩ >>= _) _ _ s
  refine wpAny_bind ?_
  unfold Builtin.Dict.dictSlotArgs
  refine wpAny_bind (wpAny_notOrdered_dict da.typeIs ?_)
  show wpAny _ _ (pure (Value.ref a, Value.ref b)) _ _ s
  refine wpAny_pure ?_
  refine wpAny_bind (wpAny_isInstance (T := "dict") db.typeIs PySem.F.sub_dict_dict ?_)
  simp only [Bool.not_true, Bool.false_eq_true, if_false]
  refine wpAny_bind (wpAny_pure (wpAny_bind (wpAny_pure ?_)))
  refine wpAny_bind (samePairsB t I ha hb da db keep hit hr (fun s' hI => ?_) h0)
  refine wpAny_pure ⟨_, rfl, ?_, ?_⟩
  · exact fun x => nomatch x
  · rw [show (r == true) = r from by cases r <;> rfl]
    exact h s' hI
end
section
variable {X : Cx} {CX : CXT} {k : Nat} {C f : Addr} {fd : FuncData} {ps : List Str} {sp : Sp} {E : XK}
/-- two dicts of instances by name; t tells which entries are equal -/
def rDictB (C : Addr) (sp : Sp) (E : XK) : R2 := fun x y H Q => ∃ a b, ∃ ks ls : List (Key × V), ∃ t : Nat → Bool, ∃ ans : Bool, x = .ref a ∧ y = .ref b ∧ a ≠ b ∧ H a = some (.dK ks) ∧ H b = some (.dK ls) ∧
  (∀ (i : Nat) k u, ks[i]? = some (k, u) → (valV ls k = none ∧ t i = false) ∨ ∃ v, valV ls k = some v ∧ ∃ p q dx dy fs gs, u = .ref p ∧ v = .ref q ∧ H p = some (.ins C dx fs) ∧ H q = some (.ins C dy gs) ∧ (p = q → t i = true) ∧ ∀ H' : Hp, (∀ c o, c ≠ a → c ≠ b → H c = some o → H' c = some o) → sp [.ref p, .ref q] H' (fun w H2 => w = .bl (t i) ∧ H2 = H') E) ∧
  (ans = true ↔ ks.length = ls.length ∧ ∀ i, i < ks.length → t i = true) ∧ Q (.bl ans) H
theorem op_dictB (hs : PySem.W.findIn X.K (.ref C) "__eq__" = some (some (.ref f))) (hf : PySem.W.isFn X.K (.ref f) = true) (Fk : FnOk X.prog X.w X.K X.mg X.base CX k f fd ps sp) (hr : Room (k + 1) X.A) (hb : Binds X.K fd ps []) (hx : Passes CX X E) : OpR X (compareOp .Eq) (rDictB C sp E) := by
  intro pins s σ H x y v u Q I rx ry h
  obtain ⟨a, b, ks, ls, t, ans, rfl, rfl, hne, ha, hb', hi, hans, q⟩ := h
  cases rx
  cases ry
  obtain ⟨_, ya, va, ra, da⟩ := (show ObjOk X.prog X.w H s.heap a (.dK ks) from I.hok a _ ha)
  obtain ⟨_, yb, vb, rb, db⟩ := (show ObjOk X.prog X.w H s.heap b (.dK ls) from I.hok b _ hb')
  obtain ⟨oa, I1⟩ := I.lock ha trivial
  have hb1 : (upd H a (.frz oa (.dK ks))) b = some (.dK ls) := by rw [upd_ne (Ne.symm hne)]; exact hb'
  obtain ⟨ob, I2⟩ := I1.lock hb1 trivial
  have hu : X.A.units < cLine := hr.units0
  have ea : (upd (upd H a (.frz oa (.dK ks))) b (.frz ob (.dK ls))) a = some (.frz oa (.dK ks)) := by rw [upd_ne hne]; exact upd_same
  have eb : (upd (upd H a (.frz oa (.dK ks))) b (.frz ob (.dK ls))) b = some (.frz ob (.dK ls)) := upd_same
  have back : upd (upd (upd (upd H a (.frz oa (.dK ks))) b (.frz ob (.dK ls))) b (.dK ls)) a (.dK ks) = H := by
    funext c
    by_cases e1 : c = a
    · rw [e1, upd_same, ha]
    · rw [upd_ne e1]
      by_cases e2 : c = b
      · rw [e2, upd_same, hb']
      · rw [upd_ne e2, upd_ne e2, upd_ne e1]
  have kp : ∀ c o, c ≠ a → c ≠ b → H c = some o → (upd (upd H a (.frz oa (.dK ks))) b (.frz ob (.dK ls))) c = some o := fun c o h1 h2 h3 => by rw [upd_ne h2, upd_ne h1]; exact h3
  show wpAny (model X.prog X.w) X.A (compareOp .Eq (.ref a) (.ref b)) (EP X pins σ Q) X.xe s
  refine dict_eqB (oa := oa) (ob := ob) (r := ans) t (fun s' => Inv X pins σ (upd (upd H a (.frz oa (.dK ks))) b (.frz ob (.dK ls))) s') ya yb da db hu (fun s' I' => ?_) (fun i k v hk => ?_) ?_ (fun s' I' => ?_) I2
  · have xa : ObjOk X.prog X.w _ s'.heap a (.frz oa (.dK ks)) := I'.hok a _ ea
    have xb : ObjOk X.prog X.w _ s'.heap b (.frz ob (.dK ls)) := I'.hok b _ eb
    exact ⟨xa.1, xb.1⟩
  · have hk' : i < va.length := (List.getElem?_eq_some_iff.mp hk).1
    have hki : i < ks.length := by rw [ra.length]; exact hk'
    obtain ⟨z, hz, ez⟩ := paired_get ra (List.getElem?_eq_getElem hki)
    rw [hk] at hz
    obtain rfl := Option.some.inj hz
    obtain ⟨e1, ru⟩ := ez
    have hks : ks[i]? = some (k, (ks[i]).2) := by rw [List.getElem?_eq_getElem hki]; exact congrArg some (Prod.ext e1 rfl)
    have at_ : RelO (valV ls k) (valueAt vb k) := rb.val _
    rcases hi i k _ hks with ⟨f1, f2⟩ | ⟨v', f1, p', q', dx, dy, fs, gs, eu, evv, hp, hq, hsame, hsp⟩
    · rw [f1] at at_
      refine .inl ⟨?_, f2⟩
      cases hv : valueAt vb k with
      | none => rfl
      | some y => rw [hv] at at_; exact at_.elim
    · rw [f1] at at_
      obtain ⟨y, hy, ry⟩ := at_.some_of
      refine .inr ⟨y, hy, fun s' I' => ?_⟩
      have ru : RelV (ks[i]).2 v := ru
      rw [eu] at ru
      rw [evv] at ry
      obtain rfl : v = Value.ref p' := ru
      obtain rfl : y = Value.ref q' := ry
      have nep : ∀ c d xs ys, H c = some (.ins C d xs) → H a = some (.dK ys) → c ≠ a := fun c d xs ys h1 h2 z => by rw [z, h2] at h1; cases h1
      have hpa : p' ≠ a := fun z => by rw [z, ha] at hp; cases hp
      have hpb : p' ≠ b := fun z => by rw [z, hb'] at hp; cases hp
      have hqa : q' ≠ a := fun z => by rw [z, ha] at hq; cases hq
      have hqb : q' ≠ b := fun z => by rw [z, hb'] at hq; cases hq
      have hp := kp p' _ hpa hpb hp
      have hq := kp q' _ hqa hqb hq
      have hsp := hsp _ kp
      by_cases hab : p' = q'
      · subst hab
        exact eqBool_same ⟨(hsame rfl).symm, I'⟩
      · obtain ⟨mA, J, _⟩ := ins_get I'.hok hp
        obtain ⟨mB, J', _⟩ := ins_get I'.hok hq
        obtain ⟨od, J, _⟩ := J.look
        obtain ⟨od', J', _⟩ := J'.look
        obtain ⟨m, hF⟩ := I'.fr
        refine GQ.eqBool_refG hab (PySem.W.cmp_K (op := .Eq) (tb := .ref C) hr.in1.units0 hF I'.ok.mod.kin J J'.type (by simp [PySem.W.notFirst]) hs hf (wpAny_mono (run_own1 (vs := [V.ref p', V.ref q']) Fk hr hb hx I' (.cons rfl (.cons rfl .nil)) hsp) (fun v s2 hv => ?_) fun _ _ e => e))
        obtain ⟨x, H2, I2', rv, ex, eH⟩ := hv
        subst ex
        subst eH
        obtain rfl : v = Value.bool (t i) := rv
        exact ⟨t i, rfl, rfl, I2'⟩
  · rw [hans, ra.length, rb.length]
  · have I3 := I'.unlock eb (I1.nofrz hb1 trivial)
    have I4 := I3.unlock (d := a) (od := oa) (u := .dK ks) (by rw [upd_ne hne]; exact ea) (I.nofrz ha trivial)
    rw [back] at I4
    exact ⟨.bl ans, H, I4, rfl, q⟩
end
theorem room128 {k : Nat} {A : Around} (r : Room k A) : A.units + 128 < cLine := by have := r.un; omega
/-! dicts of data compared -/
section
open PySem.W PySem.SeqAt
theorem hits_of {K : Type} [DecidableEq K] {A : Around} {s : Shared} {vb : List (K × Value)} : ∀ (va : List (K × Value)) (t : Nat → Bool), (∀ (i : Nat) k v, va[i]? = some (k, v) → (valueAt vb k = none ∧ t i = false) ∨ ∃ y, valueAt vb k = some y ∧ EqAt A s v y (t i)) → ∃ r, KeqHits A s vb va r ∧ (r = true ↔ ∀ i, i < va.length → t i = true)
  | [], t, _ => ⟨true, .nil, by simp⟩
  | (k, v) :: va, t, h => by
    obtain ⟨r, hr, er⟩ := hits_of va (fun i => t (i + 1)) fun i k v hi => h (i + 1) k v hi
    rcases h 0 k v rfl with ⟨h1, h2⟩ | ⟨y, h1, h2⟩
    · refine ⟨false, .miss h1, ?_⟩
      constructor
      · intro z; cases z
      · intro z
        have := z 0 (Nat.zero_lt_succ _)
        rw [h2] at this
        cases this
    · refine ⟨t 0 && r, .hit h1 h2 hr, ?_⟩
      rw [Bool.and_eq_true, er]
      constructor
      · rintro ⟨a, b⟩ i hi
        cases i with
        | zero => exact a
        | succ i => exact b i (Nat.lt_of_succ_lt_succ hi)
      · intro z
        exact ⟨z 0 (Nat.zero_lt_succ _), fun i hi => z (i + 1) (Nat.succ_lt_succ hi)⟩
end
section
variable {X : Cx}
def rNeDD (K : PySem.W.Frag) : R2 := fun x y H Q => ∃ a b, ∃ ks ls : List (Key × V), ∃ t : Nat → Bool, ∃ ans : Bool, x = .ref a ∧ y = .ref b ∧ H a = some (.dK ks) ∧ H b = some (.dK ls) ∧
  (∀ (i : Nat) k u, ks[i]? = some (k, u) → (valV ls k = none ∧ t i = false) ∨ ∃ v d e, valV ls k = some v ∧ Dp K H u d ∧ Dp K H v e ∧ SeqAt.shaped d = true ∧ SeqAt.shaped e = true ∧ PyData.eqv d e = t i) ∧
  (ans = true ↔ ks.length = ls.length ∧ ∀ i, i < ks.length → t i = true) ∧ Q (.bl (!ans)) H
theorem op_neDD (hu : X.A.units + 128 < cLine) : OpR X (compareOp .NotEq) (rNeDD X.K) := by
  intro pins s σ H x y v u Q I rx ry h
  obtain ⟨a, b, ks, ls, t, ans, rfl, rfl, ha, hb, hi, hans, q⟩ := h
  cases rx
  cases ry
  obtain ⟨_, ya, va, ra, da⟩ := (show ObjOk X.prog X.w H s.heap a (.dK ks) from I.hok a _ ha)
  obtain ⟨_, yb, vb, rb, db⟩ := (show ObjOk X.prog X.w H s.heap b (.dK ls) from I.hok b _ hb)
  obtain ⟨r, hr, er⟩ := hits_of (A := X.A.in1) (s := s) (vb := vb) va t fun i k v hk => by
    have hk' : i < va.length := (List.getElem?_eq_some_iff.mp hk).1
    have hki : i < ks.length := by rw [ra.length]; exact hk'
    obtain ⟨z, hz, ez⟩ := paired_get ra (List.getElem?_eq_getElem hki)
    rw [hk] at hz
    obtain rfl := Option.some.inj hz
    obtain ⟨e1, ru⟩ := ez
    have hks : ks[i]? = some (k, (ks[i]).2) := by rw [List.getElem?_eq_getElem hki]; exact congrArg some (Prod.ext e1 rfl)
    have at_ : RelO (valV ls k) (valueAt vb k) := rb.val _
    rcases hi i k _ hks with ⟨f1, f2⟩ | ⟨v', d, e, f1, hd, he, sd, se, hq⟩
    · rw [f1] at at_
      refine .inl ⟨?_, f2⟩
      cases hv : valueAt vb k with
      | none => rfl
      | some y => rw [hv] at at_; exact at_.elim
    · rw [f1] at at_
      obtain ⟨y, hy, ry⟩ := at_.some_of
      obtain ⟨_, R1⟩ := Dp.reads I d _ v hd ru
      obtain ⟨_, R2⟩ := Dp.reads I e v' y he ry
      have := SeqAt.eqAt_reads d e X.A.in1 s v y _ _ R1 R2 (SeqAt.canLay_of_shaped sd) (SeqAt.canLay_of_shaped se) (SeqAt.room_of_shaped sd (by show X.A.units + 1 + 64 < cLine; omega))
      rw [hq] at this
      exact .inr ⟨y, hy, this⟩
  refine PySem.W.keq_ne (r := r) ya yb da db (by omega) (fun _ => hr) (fin_bl I q ?_)
  have hl : va.length = ks.length := ra.length.symm
  have hl' : vb.length = ls.length := rb.length.symm
  congr 1
  rw [Bool.eq_iff_iff, hans, Bool.and_eq_true, er, hl, hl', beq_iff_eq]
end
/-! xs[::e] where e is 1 or -1 -/
section
variable {X : Cx}
def tStepL (K : PySem.W.Frag) (te ts : TE) : TE := fun σ H Q => te σ H fun x H1 => tPart ts σ H1 fun o H2 => ∃ c, o = some c ∧ ∃ a xs, x = .ref a ∧ SqL K H2 a xs ∧ (c = 1 ∨ c = -1) ∧ ∀ p, H2 p = none → Q (.ref p) (upd H2 p (.lst (if c = 1 then xs else xs.reverse)))
theorem pe_stepL {e f : Expr} {te ts : TE} {p3 pos : Pos} (he : PE X e te) (hf : PE X f ts) : PE X (.Subscript e (.Slice none none (some f) p3) pos) (tStepL X.K te ts) := by
  refine ⟨fun pins s σ H Q I h => ?_⟩
  refine Subscript_ (thn (he.run pins s σ H _ I h) fun v s1 ⟨x, H1, I1, r1, q1⟩ => ?_)
  have hst : PO X (some f) (tPart ts) := po_some hf
  refine wpAny_Slice (thn (po_none.run pins s1 σ H1 (fun o H2 => o = none ∧ H2 = H1) I1 ⟨rfl, rfl⟩) fun vl s2 ⟨l, H2, I2, pl, el, e2⟩ => ?_)
  subst el e2
  refine thn (po_none.run pins s2 σ H2 (fun o H3 => o = none ∧ H3 = H2) I2 ⟨rfl, rfl⟩) fun vu s3 ⟨u, H3, I3, pu, eu, e3⟩ => ?_
  subst eu e3
  refine thn (hst.run pins s3 σ H3 _ I3 q1) fun vs s4 ⟨o, H4, I4, ps, c, eo, a, xs, ex, hx, hc, q⟩ => ?_
  subst eo
  subst ex
  cases r1
  have I5 : Inv X pins σ H4 { s4 with heap := s4.heap.push { cls := .type "slice", data := .fields #[vl, vu, vs] } } := I4.kept (t' := s4.toks) fun b ob q => Heap.get?_push_of_some _ q
  obtain ⟨its, r, ht, hz⟩ := I5.list hx
  have hlen := r.length
  show wpAny (model X.prog X.w) X.A (subscriptTail e (.Slice none none (some f) p3) (.ref a) (.ref s4.heap.objs.size)) (EP X pins σ Q) X.xe { s4 with heap := s4.heap.push { cls := .type "slice", data := .fields #[vl, vu, vs] } }
  refine tail_any (ops := [.ref a, .ref s4.heap.objs.size]) ht.isList.typeIs (PySem.slot_list_getitem.lookup) ?_ (by with_unfolding_all rfl)
  have hne : (some c : Option Int) ≠ some 0 := by rcases hc with rfl | rfl <;> decide
  refine wpAny_getItem_list_slice ht.isList (Heap.IsSliceOf.new _ vl vu vs) pl pu ps hne ?_ (by rw [List.size_toArray]; omega)
  rcases hc with rfl | rfl
  · rw [show slicePick its.toArray none none (some 1) = slicePick its.toArray none none none from rfl, L2.slicePick_cut, HT.sIx_none, HT.sIx_none, List.drop_zero, Nat.sub_zero, List.take_length]
    refine ⟨.ref _, _, I5.laid (t' := s4.toks) (o := .lst xs) (fun b ob q => Heap.get?_push_of_some _ q) (Nat.le_refl _) ?_, rfl, q _ (I5.hok.fresh (Nat.le_refl _))⟩
    exact ⟨hz, _, 0, r, Heap.get?_push_size _ rfl⟩
  · rw [PySem.W.krv_pick]
    refine ⟨.ref _, _, I5.laid (t' := s4.toks) (o := .lst xs.reverse) (fun b ob q => Heap.get?_push_of_some _ q) (Nat.le_refl _) ?_, rfl, q _ (I5.hok.fresh (Nat.le_refl _))⟩
    exact ⟨by rw [List.length_reverse]; exact hz, _, 0, r.reverse, Heap.get?_push_size _ rfl⟩
end
/-! an instance != an integer -/
section
variable {X : Cx} {CX : CXT} {k : Nat} {C f : Addr} {fd : FuncData} {ps : List Str} {sp : Sp} {E : XK}
def rNeI (C : Addr) (sp : Sp) (E : XK) : R2 := fun x y H Q => ∃ a dx fs, ∃ n : Int, x = .ref a ∧ y = .int n ∧ H a = some (.ins C dx fs) ∧ sp [.ref a, .int n] H (fun v H' => ∃ b, v = .bl b ∧ Q (.bl (!b)) H') E
theorem ne_ownI (N : NoNe X.K C f) (hi : PySem.W.subIn X.K (.type "int") (.ref C) = some false) (F : FnOk X.prog X.w X.K X.mg X.base CX k f fd ps sp) (hr : Room (k + 1) X.A) (hb : Binds X.K fd ps []) (hx : Passes CX X E) : OpR X (compareOp .NotEq) (rNeI C sp E) := by
  intro pins s σ H x y v u Q I rx ry h
  obtain ⟨a, dx, fs, n, rfl, rfl, ea, q⟩ := h
  obtain rfl : v = Value.ref a := rx
  obtain ⟨t, rfl⟩ := ry
  obtain ⟨mA, J, _⟩ := ins_get I.hok ea
  obtain ⟨od, J, _⟩ := J.look
  show wpAny (model X.prog X.w) X.A (richCompare .NotEq (.ref a) (.int n t)) (EP X pins σ Q) X.xe s
  refine ne_KI (by have := hr.un; omega) I.kIn N hi J (wpAny_mono (run_own1 (vs := [V.ref a, V.int n]) F hr hb hx I (.cons rfl (.cons ⟨t, rfl⟩ .nil)) q) (fun v s2 hv => ?_) fun _ _ e => e)
  obtain ⟨x, H2, I2, rv, b, ex, q2⟩ := hv
  subst ex
  obtain rfl : v = Value.bool b := rv
  exact ⟨b, rfl, .bl (!b), H2, I2, rfl, q2⟩
end
/-! lists != whose items are dicts of the same entries -/
section
open PySem.SeqAt
open AutoSeq1 (wpAny_loadPart')
open MeetsSeq MeetsSeq2 MeetsSeq3
variable {prog : Program} {w : World}
theorem ne_loopIn (l b : Addr) (items items2 : Array Value) (n n2 : Nat) (dd dd2 : Option Addr) (sl sl2 : Array (Option Value)) (hsz : items.size = items2.size) (e : Nat → Bool) (k : Nat) :
    ∀ i : Nat, items.size - i = k → MeetsIn prog w (Builtin.«list.__eq__.loop» ⟨[.ref l, .ref b, rawInt i, rawInt 3], []⟩)
      (fun A R s => s.heap.get? l = some { cls := .type "list", dict := dd, data := .seq items n, slots := sl } ∧ s.heap.get? b = some { cls := .type "list", dict := dd2, data := .seq items2 n2, slots := sl2 } ∧
        (∀ j (h1 : j < items.size) (h2 : j < items2.size), EqIn prog w A.in1 s items[j] items2[j] (e j)) ∧
        R (.ok (.ret (.bool (!((List.range items.size).drop i).all e)))) s) := by
  induction k with
  | zero =>
    intro i hk A R s h
    obtain ⟨hp, g, d, tk, os⟩ := s; obtain ⟨hl, hb, he, h⟩ := h
    wp_walk using wpAny_loadPart' hl, wpAny_loadPart' hb
    have hi1 : items[((i : Nat) : Int).toNat]? = none := by simp; omega
    have hi2 : items2[((i : Nat) : Int).toNat]? = none := by simp; omega
    have hd : (List.range items.size).drop i = [] := by simp; omega
    rw [hd] at h
    rw [hi1, hi2]
    wp_walk using wpAny_loadPart' hl, wpAny_loadPart' hb
    show R (.ok (.ret (.bool (items.size != items2.size)))) _
    rw [hsz]
    simpa using h
  | succ k ih =>
    intro i hk A R s h
    obtain ⟨hp, g, d, tk, os⟩ := s; obtain ⟨hl, hb, he, h⟩ := h
    wp_walk using wpAny_loadPart' hl, wpAny_loadPart' hb
    have hlt : i < items.size := by omega
    have hlt2 : i < items2.size := by omega
    have hi1 : items[((i : Nat) : Int).toNat]? = some items[i] := by simp [hlt]
    have hi2 : items2[((i : Nat) : Int).toNat]? = some items2[i] := by simp [hlt2]
    have hd : (List.range items.size).drop i = i :: (List.range items.size).drop (i + 1) := by simp [List.drop_eq_getElem_cons, hlt]
    have hc : ((i : Int) + 1) = ((i + 1 : Nat) : Int) := by push_cast; rfl
    rw [hd, List.all_cons] at h
    rw [hi1, hi2]
    refine wpAny_bind (he i hlt hlt2 _ _ ?_)
    cases hb' : e i with
    | true =>
      rw [hb'] at h
      wp_walk
      rw [hc]
      exact ⟨plainId_quiet plain_eq_loop _, codeAny_builtin entry_eq_loop (by
        rw [Around.under_plainId plain_eq_loop _]
        exact ih (i + 1) (by omega) A R _ ⟨hl, hb, he, by simpa using h⟩)⟩
    | false =>
      rw [hb'] at h
      wp_walk using wpAny_loadPart' hl, wpAny_loadPart' hb
      rw [hi1, hi2]
      wp_walk
      simpa using h
theorem list_neIn (l b : Addr) (items items2 : Array Value) (n n2 : Nat) (dd dd2 : Option Addr) (sl sl2 : Array (Option Value)) (hsz : items.size = items2.size) (e : Nat → Bool) :
    MeetsIn prog w (Builtin.«list.__ne__» ⟨[.ref l, .ref b], []⟩)
      (fun A R s => s.heap.get? l = some { cls := .type "list", dict := dd, data := .seq items n, slots := sl } ∧ s.heap.get? b = some { cls := .type "list", dict := dd2, data := .seq items2 n2, slots := sl2 } ∧
        (∀ j (h1 : j < items.size) (h2 : j < items2.size), EqIn prog w A.in1 s items[j] items2[j] (e j)) ∧
        R (.ok (.ret (.bool (!(List.range items.size).all e)))) s) := by
  intro A R s h
  obtain ⟨hp, g, d, tk, os⟩ := s; obtain ⟨hl, hb, he, h⟩ := h
  have f3 := AutoSeq1.sub_list_list
  have hne : ¬ (items.size != items2.size) = true := by simp [hsz]
  wp_walk using wpAny_loadPart' hl, wpAny_loadPart' hb
  exact ⟨plainId_quiet plain_eq_loop _, codeAny_builtin entry_eq_loop (by
    rw [Around.under_plainId plain_eq_loop _]
    exact ne_loopIn l b items items2 n n2 dd dd2 sl sl2 hsz e _ 0 rfl A R _ ⟨hl, hb, he, by simpa using h⟩)⟩
theorem rcNeIn_lists {A : Around} {s : Shared} {E : Value → Shared → Prop} {l b : Addr} {items items2 : Array Value} {e : Nat → Bool} {Q : Value → Shared → Prop} (hl : s.heap.IsList l items) (hb : s.heap.IsList b items2) (hsz : items.size = items2.size) (hu : A.units < cLine)
    (he : ∀ j (h1 : j < items.size) (h2 : j < items2.size), EqIn prog w A.in1 s items[j] items2[j] (e j)) (h : Q (.bool (!(List.range items.size).all e)) s) : wpAny (model prog w) A (richCompare .NotEq (.ref l) (.ref b)) Q E s := by
  obtain ⟨⟨cls, dd, data, sl⟩, ho, hc, n, hd⟩ := id hl
  obtain ⟨⟨cls2, dd2, data2, sl2⟩, ho2, hc2, n2, hd2⟩ := id hb
  simp only at hc hd hc2 hd2
  subst hc hd hc2 hd2
  exact wpAny_richCompare_same_room (T := "list") (op := .NotEq) ⟨_, ho, rfl⟩ ⟨_, ho2, rfl⟩ F.slot_list_ne (call_meetsIn F.slot_list_ne ⟨_, ho, rfl⟩ F.entry_list_ne (F.args_list_ne_2 _ _) (list_neIn l b items items2 n n2 dd dd2 sl sl2 hsz e)
    ⟨ho, ho2, he, show Value.bool (!(List.range items.size).all e) ≠ Value.notImplemented ∧ Q (.bool (!(List.range items.size).all e)) s from ⟨(fun x => nomatch x), h⟩⟩) hu
end
section
open PySem.W
variable {X : Cx}
theorem valV_mem {κ : Type} [DecidableEq κ] {k : κ} {u : V} : ∀ (ks : List (κ × V)), (ks.map (·.1)).Nodup → (k, u) ∈ ks → valV ks k = some u
  | [], _, hm => by cases hm
  | p :: r, nd, hm => by
    rw [List.map_cons, List.nodup_cons] at nd
    unfold valV
    rw [List.find?_cons]
    rcases List.mem_cons.mp hm with h | h
    · rw [← h, decide_eq_true rfl]
      rfl
    · have e : p.1 ≠ k := fun e => nd.1 (by rw [e]; exact List.mem_map_of_mem (f := (·.1)) h)
      rw [decide_eq_false e]
      exact valV_mem r nd.2 h
/-- two dicts of the same entries -/
def SameD (K : PySem.W.Frag) (H : Hp) (u v : V) : Prop := ∃ a b ks, u = .ref a ∧ v = .ref b ∧ a ≠ b ∧ H a = some (.dK ks) ∧ H b = some (.dK ks) ∧ (ks.map (·.1)).Nodup ∧ ∀ p ∈ ks, EqV K H p.2 p.2
theorem eqV_tree {pins : List (Addr × Obj)} {σ : L2.St} {H : Hp} {s : Shared} (I : Inv X pins σ H s) {x : V} {v y : Value} (h : EqV X.K H x x) (rv : RelV x v) (ry : RelV x y) : EqTree X.prog X.w s 70 v y true := by
  cases h with
  | same c =>
    obtain rfl : v = Value.ref c := rv
    obtain rfl : y = Value.ref c := ry
    exact .same
  | @data _ _ d e hd hd2 sd se hq =>
    obtain ⟨_, R1⟩ := Dp.reads I d x v hd rv
    obtain ⟨_, R2⟩ := Dp.reads I e x y hd2 ry
    refine .leaf fun A hu => ?_
    have := SeqAt.eqAt_reads d e A s v y _ _ R1 R2 (SeqAt.canLay_of_shaped sd) (SeqAt.canLay_of_shaped se) (SeqAt.room_of_shaped sd (by omega))
    rw [hq] at this
    exact this
theorem sameD_tree {pins : List (Addr × Obj)} {σ : L2.St} {H : Hp} {s : Shared} (I : Inv X pins σ H s) {a b : Addr} {ks : List (Key × V)} (hne : a ≠ b) (ha : H a = some (.dK ks)) (hb : H b = some (.dK ks)) (nd : (ks.map (·.1)).Nodup) (hv : ∀ p ∈ ks, EqV X.K H p.2 p.2) : EqTree X.prog X.w s 71 (.ref a) (.ref b) true := by
  obtain ⟨_, ya, va, ra, da⟩ := (show ObjOk X.prog X.w H s.heap a (.dK ks) from I.hok a _ ha)
  obtain ⟨_, yb, vb, rb, db⟩ := (show ObjOk X.prog X.w H s.heap b (.dK ks) from I.hok b _ hb)
  have item : ∀ k v, (k, v) ∈ va → ∃ u, (k, u) ∈ ks ∧ RelV u v := fun k v hm => by
    obtain ⟨i, hi, e⟩ := List.getElem_of_mem hm
    have hki : i < ks.length := by rw [ra.length]; exact hi
    obtain ⟨z, hz, ez⟩ := paired_get ra (List.getElem?_eq_getElem hki)
    rw [List.getElem?_eq_getElem hi, e] at hz
    obtain rfl := Option.some.inj hz
    obtain ⟨e1, ru⟩ := ez
    exact ⟨(ks[i]).2, by rw [show (k, (ks[i]).2) = ks[i] from Prod.ext e1.symm rfl]; exact List.getElem_mem hki, ru⟩
  have found : ∀ k u, (k, u) ∈ ks → valV ks k = some u := fun k u hm => valV_mem ks nd hm
  have t := EqTree.dicts (e := fun _ => true) (n := 70) hne ya yb da db fun k v y hm hy => by
    obtain ⟨u, hu, ru⟩ := item k v hm
    have at_ : RelO (valV ks k) (valueAt vb k) := rb.val _
    rw [found k u hu, hy] at at_
    exact eqV_tree I (hv _ hu) ru at_
  have e : (va.length == vb.length && va.all fun p => (valueAt vb p.1).isSome && true) = true := by
    rw [Bool.and_eq_true, beq_iff_eq, List.all_eq_true]
    refine ⟨by rw [← ra.length, ← rb.length], fun p hp => ?_⟩
    obtain ⟨u, hu, _⟩ := item p.1 p.2 hp
    have at_ : RelO (valV ks p.1) (valueAt vb p.1) := rb.val _
    rw [found _ u hu] at at_
    obtain ⟨y, hy, _⟩ := at_.some_of
    rw [hy]
    rfl
  rw [e] at t
  exact t
def rNeDicts (K : PySem.W.Frag) : R2 := fun x y H Q => ∃ a b xs ys, x = V.ref a ∧ y = V.ref b ∧ SqL K H a xs ∧ SqL K H b ys ∧ Paired (SameD K H) xs ys ∧ Q (.bl false) H
theorem op_neDicts (hu : X.A.units + 128 < cLine) : OpR X (compareOp .NotEq) (rNeDicts X.K) := by
  intro pins s σ H x y v u Q I rx ry h
  obtain ⟨a, b, xs, ys, rfl, rfl, ha, hb, hp, q⟩ := h
  obtain rfl : v = Value.ref a := rx
  obtain rfl : u = Value.ref b := ry
  obtain ⟨as, ra, pa, za⟩ := I.list ha
  obtain ⟨bs, rb, pb, zb⟩ := I.list hb
  have la : as.length = xs.length := ra.length.symm
  have lb : bs.length = ys.length := rb.length.symm
  have lab : xs.length = ys.length := hp.length
  show wpAny (model X.prog X.w) X.A (richCompare .NotEq (.ref a) (.ref b)) (EP X pins σ Q) X.xe s
  refine rcNeIn_lists (e := fun _ => true) pa.isList pb.isList (by simp; omega) (by omega) (fun j h1 h2 => ?_) (fin_bl I q (by simp))
  have i1 : j < xs.length := by simp at h1; omega
  have i2 : j < ys.length := by omega
  obtain ⟨u1, g1, r1⟩ := ra.get (List.getElem?_eq_getElem i1)
  obtain ⟨u2, g2, r2⟩ := rb.get (List.getElem?_eq_getElem i2)
  have e1 : as.toArray[j] = u1 := by
    have := (List.getElem?_eq_some_iff.mp g1).2
    simpa using this
  have e2 : bs.toArray[j] = u2 := by
    have := (List.getElem?_eq_some_iff.mp g2).2
    simpa using this
  rw [e1, e2]
  obtain ⟨y2, hy2, he⟩ := L2.paired_get hp (List.getElem?_eq_getElem i1)
  rw [List.getElem?_eq_getElem i2] at hy2
  obtain rfl := Option.some.inj hy2
  obtain ⟨c, d, ks, ec, ed, hne, hc, hd, nd, hv⟩ := he
  rw [ec] at r1
  rw [ed] at r2
  obtain rfl : u1 = Value.ref c := r1
  obtain rfl : u2 = Value.ref d := r2
  exact (sameD_tree I hne hc hd nd hv).at X.A.in1 (by show X.A.units + 1 + 71 < cLine; omega)
end
end My

/-! My own rule: sorted(xs), xs a list of tuples of one text or more. -/
namespace My
open PySem PySem.Spec PyProof.Rows L2
abbrev WayB := Addr × (Str × List Str)
def wayE (e : Str × List Str) : PyData := .tuple (.str e.1 :: e.2.map PyData.str)
theorem alike_strs : ∀ xs ys : List Str, PySem.W.alikeAll (xs.map PyData.str) (ys.map PyData.str) = true
  | [], _ => by simp [PySem.W.alikeAll]
  | _ :: _, [] => by simp [PySem.W.alikeAll]
  | x :: xs, y :: ys => by
    show PySem.W.alikeAll (.str x :: xs.map PyData.str) (.str y :: ys.map PyData.str) = true
    rw [PySem.W.alikeAll, alike_strs xs ys]
    simp [PySem.W.alike]
theorem alike_wayE (a b : Str × List Str) : PySem.W.alike (wayE a) (wayE b) = true := by
  unfold wayE
  rw [PySem.W.alike]
  exact alike_strs (a.1 :: a.2) (b.1 :: b.2)
theorem depth_strs : ∀ xs : List Str, PyData.depthAll (xs.map PyData.str) = 0
  | [] => by simp [PyData.depthAll]
  | x :: xs => by
    show PyData.depthAll (.str x :: xs.map PyData.str) = 0
    rw [PyData.depthAll, depth_strs xs]
    simp [PyData.depth]
theorem depth_wayE (a : Str × List Str) : (wayE a).depth ≤ 1 := by
  unfold wayE
  rw [PyData.depth]
  have := depth_strs (a.1 :: a.2)
  rw [List.map_cons] at this
  omega
theorem dpA_strs {K : PySem.W.Frag} {H : Hp} : ∀ xs : List Str, DpAll K H (xs.map V.str) (xs.map PyData.str)
  | [] => .nil
  | x :: xs => .cons (.str x) (dpA_strs xs)
theorem each_ways {K : PySem.W.Frag} {X : Cx} {pins : List (Addr × Obj)} {σ : L2.St} {H : Hp} {s : Shared} (I : Inv X pins σ H s) : ∀ {bs : List WayB} {us : List Value}, Vals (bs.map fun b => V.ref b.1) us → (∀ b ∈ bs, SqT X.K H b.1 ((b.2.1 :: b.2.2).map V.str)) →
    PySem.W.EachIs (fun v b => v = Value.ref b.1) us bs ∧ PySem.W.EachIs (fun v b => ∃ as, Reads s.heap v (wayE b.2) as) us bs
  | [], _, .nil, _ => ⟨.nil, .nil⟩
  | b :: bs, _, .cons r t, h => by
    have r : _ = Value.ref b.1 := r
    subst r
    obtain ⟨e1, e2⟩ := each_ways (K := K) I t fun c hc => h c (List.mem_cons_of_mem _ hc)
    exact ⟨.cons rfl e1, .cons (Dp.reads I _ (V.ref b.1) _ (.tup (h b List.mem_cons_self) (dpA_strs (b.2.1 :: b.2.2))) rfl) e2⟩
theorem vals_eachW : ∀ {us : List Value} {bs : List WayB}, PySem.W.EachIs (fun v b => v = Value.ref b.1) us bs → Vals (bs.map fun b => V.ref b.1) us
  | _, _, .nil => .nil
  | _, _, .cons h t => .cons h (vals_eachW t)
section
variable {X : Cx}
def rSortWays (K : PySem.W.Frag) : List V → Hp → VK → Prop := fun vs H Q => ∃ (a : Addr) (bs : List WayB), vs = [V.ref a] ∧ SqL K H a (bs.map fun b => V.ref b.1) ∧ (∀ b ∈ bs, SqT K H b.1 ((b.2.1 :: b.2.2).map V.str)) ∧
  ∀ (ys : List WayB) p, ys.Perm bs → H p = none → Q (.ref p) (upd H p (.lst (ys.map fun b => V.ref b.1)))
theorem cr_sortWays (hu : X.A.units + 64 < cLine) : CallR X (.builtin "sorted") (rSortWays X.K) := by
  intro pins s σ H vs us Q I r h
  obtain ⟨a, bs, rfl, hs, hb, q⟩ := h
  obtain ⟨its, rv, hl, hz⟩ := I.list hs
  rw [Vals.ref1 r]
  obtain ⟨e1, e2⟩ := each_ways (K := X.K) I rv hb
  have hlen : bs.length ≤ sizeLine := by rw [List.length_map] at hz; exact hz
  refine PySem.W.sorted_data (enc := fun b : WayB => wayE b.2) hl.isList e1 e2 (PySem.W.AllAlike.of fun b b' => alike_wayE b.2 b'.2) (PySem.W.Sortable.tuples fun b => ⟨_, _, rfl⟩) hlen (fun b _ => by have := depth_wayE b.2; omega) fun out ho e3 => ?_
  obtain ⟨ep, he'⟩ := PyProof.Rows.sortedAll_at s.heap its out.toArray
  have hp := List.mergeSort_perm bs (PySem.W.dataLe false fun b : WayB => wayE b.2)
  generalize bs.mergeSort (PySem.W.dataLe false fun b : WayB => wayE b.2) = ys at e3 hp
  have hl2 : (ys.map fun b : WayB => V.ref b.1).length ≤ sizeLine := by rw [List.length_map, hp.length_eq]; exact hlen
  exact ⟨.ref _, upd H (s.heap.objs.size + 1) (.lst (ys.map fun b => V.ref b.1)), I.laid (t' := s.toks) (fun _ _ => PyProof.Rows.sortedAll_old) (Nat.le_succ _) ⟨hl2, out, ep, vals_eachW e3, he'⟩, rfl, q _ _ hp (I.hok.fresh (Nat.le_succ _))⟩
end
end My

/-! My own rules: != of two dicts of the same entries; all parameters by keyword, in any order. -/
namespace My
open PySem PySem.Spec PyProof.Rows L2
section
open PySem.W PySem.SeqAt
variable {X : Cx}
theorem eqV_at {pins : List (Addr × Obj)} {σ : L2.St} {H : Hp} {s : Shared} (I : Inv X pins σ H s) {x : V} {v y : Value} {A : Around} (hu : A.units + 70 < cLine) (h : EqV X.K H x x) (rv : RelV x v) (ry : RelV x y) : EqAt A s v y true := by
  cases h with
  | same c =>
    obtain rfl : v = Value.ref c := rv
    obtain rfl : y = Value.ref c := ry
    exact EqAt.same _
  | @data _ _ d e hd hd2 sd se hq =>
    obtain ⟨_, R1⟩ := Dp.reads I d x v hd rv
    obtain ⟨_, R2⟩ := Dp.reads I e x y hd2 ry
    have := SeqAt.eqAt_reads d e A s v y _ _ R1 R2 (SeqAt.canLay_of_shaped sd) (SeqAt.canLay_of_shaped se) (SeqAt.room_of_shaped sd (by omega))
    rw [hq] at this
    exact this
def rNeDS (K : PySem.W.Frag) : R2 := fun x y H Q => SameD K H x y ∧ Q (.bl false) H
theorem op_neDS (hu : X.A.units + 128 < cLine) : OpR X (compareOp .NotEq) (rNeDS X.K) := by
  intro pins s σ H x y v u Q I rx ry h
  obtain ⟨⟨a, b, ks, rfl, rfl, hne, ha, hb, nd, hv⟩, q⟩ := h
  cases rx
  cases ry
  obtain ⟨_, ya, va, ra, da⟩ := (show ObjOk X.prog X.w H s.heap a (.dK ks) from I.hok a _ ha)
  obtain ⟨_, yb, vb, rb, db⟩ := (show ObjOk X.prog X.w H s.heap b (.dK ks) from I.hok b _ hb)
  obtain ⟨r, hr, er⟩ := hits_of (A := X.A.in1) (s := s) (vb := vb) va (fun _ => true) fun i k v hk => by
    have hk' : i < va.length := (List.getElem?_eq_some_iff.mp hk).1
    have hki : i < ks.length := by rw [ra.length]; exact hk'
    obtain ⟨z, hz, ez⟩ := paired_get ra (List.getElem?_eq_getElem hki)
    rw [hk] at hz
    obtain rfl := Option.some.inj hz
    obtain ⟨e1, ru⟩ := ez
    have hm : (k, (ks[i]).2) ∈ ks := by rw [show (k, (ks[i]).2) = ks[i] from Prod.ext e1.symm rfl]; exact List.getElem_mem hki
    have at_ : RelO (valV ks k) (valueAt vb k) := rb.val _
    rw [valV_mem ks nd hm] at at_
    obtain ⟨y, hy, ry⟩ := at_.some_of
    exact .inr ⟨y, hy, eqV_at I (by show X.A.units + 1 + 70 < cLine; omega) (hv _ hm) ru ry⟩
  refine PySem.W.keq_ne (r := r) ya yb da db (by omega) (fun _ => hr) (fin_bl I q ?_)
  have hl : va.length = vb.length := by rw [← ra.length, ← rb.length]
  have : r = true := er.mpr fun _ _ => rfl
  rw [this, hl]
  simp
end
/-- all parameters by keyword, in another order -/
def kPerm {α : Type} (is : List Nat) : List α → List α → List α
  | [], zs => permL is zs
  | _ :: _, _ => []
theorem kbinds_perm {K : PySem.W.Frag} {fd : FuncData} {ps ks : List Str} {is : List Nat} (h0 : 0 < ps.length) (h : ∀ (s : Shared) (ws : List Value), K.In s.heap → (permL is ws).length = ps.length → BindsTo s fd ⟨[], ks.zip ws⟩ (ps.zip (permL is ws))) : KBinds K fd ps ks (kPerm is) (kPerm is) where
  to := fun s us ws hK hl => by
    cases us with
    | nil => exact h s ws hK hl
    | cons u r =>
      have z : (0 : Nat) = ps.length := hl
      omega
  rel := fun {vs us zs ws} r rz => by
    cases r with
    | nil => exact permL_rel is rz
    | cons _ _ => exact .nil
/-- len of a list or a tuple, within a comprehension -/
def rLenS (K : PySem.W.Frag) : List V → Hp → VK → Prop := fun xs H Q => ∃ p ys, xs = [V.ref p] ∧ (SqL K H p ys ∨ SqT K H p ys) ∧ Q (.int (ys.length : Nat)) H
end My

/-! My own rules: a comprehension within a comprehension. -/
namespace My
open PySem PySem.Spec PyProof.Rows L2
theorem lookup_relabel {env : Env} {y : Str} : ∀ {l : List (Str × NameKind)}, (l.lookup y = some .cell ∨ l.lookup y = some .free) →
    ((l.map (fun x => match x with | (n, k) => if (k == NameKind.free && env.scope.kind == ScopeKind.function && env.kindOf n == some NameKind.cell) = true then (n, NameKind.cell) else (n, k))).lookup y = some .cell ∨ (l.map (fun x => match x with | (n, k) => if (k == NameKind.free && env.scope.kind == ScopeKind.function && env.kindOf n == some NameKind.cell) = true then (n, NameKind.cell) else (n, k))).lookup y = some .free)
  | [], h => by rcases h with h | h <;> cases h
  | (n, k) :: r, h => by
    rw [List.map_cons]
    dsimp only
    have step : ∀ k' : NameKind, (((n, k') :: r.map (fun x => match x with | (n, k) => if (k == NameKind.free && env.scope.kind == ScopeKind.function && env.kindOf n == some NameKind.cell) = true then (n, NameKind.cell) else (n, k))).lookup y) = if (y == n) = true then some k' else (r.map (fun x => match x with | (n, k) => if (k == NameKind.free && env.scope.kind == ScopeKind.function && env.kindOf n == some NameKind.cell) = true then (n, NameKind.cell) else (n, k))).lookup y := fun k' => by
      rw [List.lookup_cons]
      cases y == n <;> rfl
    have st0 : ((n, k) :: r).lookup y = if (y == n) = true then some k else r.lookup y := by
      rw [List.lookup_cons]
      cases y == n <;> rfl
    rw [st0] at h
    by_cases hy : (y == n) = true
    · rw [if_pos hy] at h
      split
      · rw [step, if_pos hy]; exact .inl rfl
      · rw [step, if_pos hy]; exact h
    · rw [if_neg hy] at h
      split
      · rw [step, if_neg hy]; exact lookup_relabel h
      · rw [step, if_neg hy]; exact lookup_relabel h
/-- the names of a comprehension within a comprehension -/
theorem blkOk_in {N : List Str} {sc scope : Scope} {own : List (Str × Nat)} {cl : List (Str × Addr)} {C : Addr} {env : Env} (h : blkC N sc scope own = true) : BlkOk N (compEnvC sc cl C env).scope scope own := by
  have b : BlkOk N sc scope own := blkOk_by h
  exact ⟨b.kind, b.uniq, b.ix, fun y hy hf => lookup_relabel (b.free y hy hf), b.own⟩
end My

namespace My
open PySem PySem.Spec PyProof.Rows L2
def topS (i : Nat) : Stmt := PySem.Challenge.pw_extralink_k41_check_pair.main.body.getD i (.Pass ⟨0, 0, 0, 0⟩)
abbrev s_valid_name : Stmt := topS 15
theorem sc_valid_name : FnScope ["text", "char"] ["text"] (defScope s_valid_name) := ⟨rfl, rfl, rfl, by decide +kernel, rfl, by decide +kernel, by decide +kernel⟩
abbrev s_stops : Stmt := topS 19
theorem sc_stops : FnScope ["network", "names", "first", "name"] ["network", "names", "first"] (defScope s_stops) := ⟨rfl, rfl, rfl, by decide +kernel, rfl, by decide +kernel, by decide +kernel⟩
abbrev s_connects : Stmt := topS 20
theorem sc_connects : FnScope ["network", "names", "first", "last", "places", "name"] ["network", "names", "first", "last"] (defScope s_connects) := ⟨rfl, rfl, rfl, by decide +kernel, rfl, by decide +kernel, by decide +kernel⟩
abbrev s_ordered_places : Stmt := topS 21
theorem sc_ordered_places : FnScope ["table", "start", "end", "inner", "ends", "place"] ["table", "start", "end"] (defScope s_ordered_places) := ⟨rfl, rfl, rfl, by decide +kernel, rfl, by decide +kernel, by decide +kernel⟩
abbrev s_places_behind : Stmt := topS 22
theorem sc_places_behind : FnScope ["table", "first", "found", "waiting", "place", "tail", "head"] ["table", "first"] (defScope s_places_behind) := ⟨rfl, rfl, rfl, by decide +kernel, rfl, by decide +kernel, by decide +kernel⟩
abbrev s_useful_names : Stmt := topS 23
theorem sc_useful_names : FnScope ["table", "start", "end", "reached", "name", "tail", "head"] ["table", "start", "end"] (defScope s_useful_names) := ⟨rfl, rfl, rfl, by decide +kernel, rfl, by decide +kernel, by decide +kernel⟩
abbrev s_check_ends : Stmt := topS 24
theorem sc_check_ends : FnScope ["start", "end", "place"] ["start", "end"] (defScope s_check_ends) := ⟨rfl, rfl, rfl, by decide +kernel, rfl, by decide +kernel, by decide +kernel⟩
abbrev s_check_names : Stmt := topS 25
theorem sc_check_names : FnScope ["links", "known", "name", "tail", "head", "place"] ["links"] (defScope s_check_names) := ⟨rfl, rfl, rfl, by decide +kernel, rfl, by decide +kernel, by decide +kernel⟩
abbrev s_check_rounds : Stmt := topS 26
theorem sc_check_rounds : FnScope ["table", "name", "tail", "head"] ["table"] (defScope s_check_rounds) := ⟨rfl, rfl, rfl, by decide +kernel, rfl, by decide +kernel, by decide +kernel⟩
abbrev s_check_use : Stmt := topS 27
theorem sc_check_use : FnScope ["table", "start", "end", "useful", "name"] ["table", "start", "end"] (defScope s_check_use) := ⟨rfl, rfl, rfl, by decide +kernel, rfl, by decide +kernel, by decide +kernel⟩
abbrev s_check_pair : Stmt := topS 31
theorem sc_check_pair : FnScope ["network", "pair", "cx", "xm", "cv", "c", "x", "v", "m", "ends", "names", "first", "_", "name", "last"] ["network", "pair"] (defScope s_check_pair) := ⟨rfl, rfl, rfl, by decide +kernel, rfl, by decide +kernel, by decide +kernel⟩
abbrev s_apart : Stmt := topS 32
theorem sc_apart : FnScope ["rows", "at", "row", "others", "place", "other"] ["rows"] (defScope s_apart) := ⟨rfl, rfl, rfl, by decide +kernel, rfl, by decide +kernel, by decide +kernel⟩
abbrev s_check_paper : Stmt := topS 40
theorem sc_check_paper : FnScope ["network", "paper", "kind", "told"] ["network", "paper"] (defScope s_check_paper) := ⟨rfl, rfl, rfl, by decide +kernel, rfl, by decide +kernel, by decide +kernel⟩
abbrev s_is_right : Stmt := topS 41
theorem sc_is_right : FnScope ["network", "plan", "joints"] ["network", "plan"] (defScope s_is_right) := ⟨rfl, rfl, rfl, by decide +kernel, rfl, by decide +kernel, by decide +kernel⟩
abbrev s_is_formed : Stmt := topS 43
theorem sc_is_formed : FnScope ["plan", "shape", "told", "part"] ["plan"] (defScope s_is_formed) := ⟨rfl, rfl, rfl, by decide +kernel, rfl, by decide +kernel, by decide +kernel⟩
abbrev s_is_tailed : Stmt := topS 44
theorem sc_is_tailed : FnScope ["plan", "shape", "told", "part"] ["plan"] (defScope s_is_tailed) := ⟨rfl, rfl, rfl, by decide +kernel, rfl, by decide +kernel, by decide +kernel⟩
abbrev s_plan_ends : Stmt := topS 45
theorem sc_plan_ends : FnScope ["network", "plan", "shape", "told", "ends", "one", "two", "part", "pair"] ["network", "plan"] (defScope s_plan_ends) := ⟨rfl, rfl, rfl, by decide +kernel, rfl, by decide +kernel, by decide +kernel⟩
abbrev s_plan_joints : Stmt := topS 46
theorem sc_plan_joints : FnScope ["network", "plan", "shape", "told", "own", "part", "place"] ["network", "plan"] (defScope s_plan_joints) := ⟨rfl, rfl, rfl, by decide +kernel, rfl, by decide +kernel, by decide +kernel⟩
abbrev s_start : Stmt := topS 48
theorem sc_start : FnScope ["_law_script", "_law_cell"] ["_law_script"] (defScope s_start) := ⟨rfl, rfl, rfl, by decide +kernel, rfl, by decide +kernel, by decide +kernel⟩
abbrev s_take : Stmt := topS 49
theorem sc_take : FnScope ["_law_state", "_law_limit", "_law_cells", "_law_at", "_law_cell", "_law_number"] ["_law_state", "_law_limit"] (defScope s_take) := ⟨rfl, rfl, rfl, by decide +kernel, rfl, by decide +kernel, by decide +kernel⟩
abbrev s_planted : Stmt := topS 50
theorem sc_planted : FnScope ["_law_state", "_law_sizes", "_law_turn", "_law_spot", "_law_ends", "_law_count", "_law_start_here", "_law_end", "_law_links", "_law_rows", "_law_k", "_law_row", "_law_place", "_law_head"] ["_law_state"] (defScope s_planted) := ⟨rfl, rfl, rfl, by decide +kernel, rfl, by decide +kernel, by decide +kernel⟩
abbrev s_shuffled : Stmt := topS 51
theorem sc_shuffled : FnScope ["_law_state", "_law_items", "_law_rest", "_law_told", "_law_k"] ["_law_state", "_law_items"] (defScope s_shuffled) := ⟨rfl, rfl, rfl, by decide +kernel, rfl, by decide +kernel, by decide +kernel⟩
abbrev s_places : Stmt := topS 52
theorem sc_places : FnScope ["_law_links", "_law_names", "_law_places_here", "_law_name", "_law_found", "_law_link"] ["_law_links", "_law_names"] (defScope s_places) := ⟨rfl, rfl, rfl, by decide +kernel, rfl, by decide +kernel, by decide +kernel⟩
abbrev s_between : Stmt := topS 53
theorem sc_between : FnScope ["_law_row", "_law_first", "_law_last"] ["_law_row", "_law_first", "_law_last"] (defScope s_between) := ⟨rfl, rfl, rfl, by decide +kernel, rfl, by decide +kernel, by decide +kernel⟩
abbrev s_pair : Stmt := topS 54
theorem sc_pair : FnScope ["_law_links", "_law_start_here", "_law_end", "_law_seven", "_law_rows", "_law_k", "_law_c", "_law_x", "_law_v", "_law_m", "_law_ends", "_law_inner", "_law_row", "_law_names"] ["_law_links", "_law_start_here", "_law_end", "_law_seven"] (defScope s_pair) := ⟨rfl, rfl, rfl, by decide +kernel, rfl, by decide +kernel, by decide +kernel⟩
abbrev s_merged : Stmt := topS 55
theorem sc_merged : FnScope ["_law_state", "_law_links", "_law_rows", "_law_couples", "_law_one", "_law_two", "_law_old", "_law_new", "_law_told", "_law_tail", "_law_head", "_law_spot"] ["_law_state", "_law_links", "_law_rows"] (defScope s_merged) := ⟨rfl, rfl, rfl, by decide +kernel, rfl, by decide +kernel, by decide +kernel⟩
abbrev s_changed : Stmt := topS 56
theorem sc_changed : FnScope ["_law_state", "_law_names", "_law_seven", "_law_rows", "_law_plan", "_law_one", "_law_two", "_law_name", "_law_row"] ["_law_state", "_law_names", "_law_seven"] (defScope s_changed) := ⟨rfl, rfl, rfl, by decide +kernel, rfl, by decide +kernel, by decide +kernel⟩
abbrev s_law : Stmt := topS 57
theorem sc_law : FnScope ["_law_script", "_law_state", "_law_links", "_law_rows", "_law_count", "_law_start_here", "_law_end", "_law_merge", "_law_places_here", "_law_names", "_law_told", "_law_net", "_law_seven", "_law_turn", "_law_due", "_law_actual", "_law_k", "_law_row"] ["_law_script"] (defScope s_law) := ⟨rfl, rfl, rfl, by decide +kernel, rfl, by decide +kernel, by decide +kernel⟩
abbrev s_BadName_init : Stmt := inClass (topS 3) 0
theorem sc_BadName_init : FnScope ["self", "name"] ["self", "name"] (defScope s_BadName_init) := ⟨rfl, rfl, rfl, by decide +kernel, rfl, by decide +kernel, by decide +kernel⟩
abbrev s_DuplicateName_init : Stmt := inClass (topS 4) 0
theorem sc_DuplicateName_init : FnScope ["self", "name"] ["self", "name"] (defScope s_DuplicateName_init) := ⟨rfl, rfl, rfl, by decide +kernel, rfl, by decide +kernel, by decide +kernel⟩
abbrev s_UnknownName_init : Stmt := inClass (topS 5) 0
theorem sc_UnknownName_init : FnScope ["self", "name"] ["self", "name"] (defScope s_UnknownName_init) := ⟨rfl, rfl, rfl, by decide +kernel, rfl, by decide +kernel, by decide +kernel⟩
abbrev s_BadCount_init : Stmt := inClass (topS 6) 0
theorem sc_BadCount_init : FnScope ["self", "count"] ["self", "count"] (defScope s_BadCount_init) := ⟨rfl, rfl, rfl, by decide +kernel, rfl, by decide +kernel, by decide +kernel⟩
abbrev s_HasRound_init : Stmt := inClass (topS 8) 0
theorem sc_HasRound_init : FnScope ["self", "name"] ["self", "name"] (defScope s_HasRound_init) := ⟨rfl, rfl, rfl, by decide +kernel, rfl, by decide +kernel, by decide +kernel⟩
abbrev s_UselessLink_init : Stmt := inClass (topS 9) 0
theorem sc_UselessLink_init : FnScope ["self", "name"] ["self", "name"] (defScope s_UselessLink_init) := ⟨rfl, rfl, rfl, by decide +kernel, rfl, by decide +kernel, by decide +kernel⟩
abbrev s_Network_init : Stmt := inClass (topS 17) 2
theorem sc_Network_init : FnScope ["self", "links", "start", "end", "given", "table", "places", "name", "tail", "head", "place"] ["self", "links", "start", "end"] (defScope s_Network_init) := ⟨rfl, rfl, rfl, by decide +kernel, rfl, by decide +kernel, by decide +kernel⟩
abbrev s_Network_start : Stmt := inClass (topS 17) 4
theorem sc_Network_start : FnScope ["self"] ["self"] (defScope s_Network_start) := ⟨rfl, rfl, rfl, by decide +kernel, rfl, by decide +kernel, by decide +kernel⟩
abbrev s_Network_end : Stmt := inClass (topS 17) 5
theorem sc_Network_end : FnScope ["self"] ["self"] (defScope s_Network_end) := ⟨rfl, rfl, rfl, by decide +kernel, rfl, by decide +kernel, by decide +kernel⟩
abbrev s_Network_getitem : Stmt := inClass (topS 17) 13
theorem sc_Network_getitem : FnScope ["self", "name"] ["self", "name"] (defScope s_Network_getitem) := ⟨rfl, rfl, rfl, by decide +kernel, rfl, by decide +kernel, by decide +kernel⟩
abbrev s_Network_contains : Stmt := inClass (topS 17) 15
theorem sc_Network_contains : FnScope ["self", "name"] ["self", "name"] (defScope s_Network_contains) := ⟨rfl, rfl, rfl, by decide +kernel, rfl, by decide +kernel, by decide +kernel⟩
set_option maxHeartbeats 0 in
structure Txt (K : PySem.W.Frag) (mg : Str → Option Value) where
  f_BadName : Addr
  m_BadName : mg "BadName" = some (.ref f_BadName)
  f_DuplicateName : Addr
  m_DuplicateName : mg "DuplicateName" = some (.ref f_DuplicateName)
  f_UnknownName : Addr
  m_UnknownName : mg "UnknownName" = some (.ref f_UnknownName)
  f_BadCount : Addr
  m_BadCount : mg "BadCount" = some (.ref f_BadCount)
  f_HasRound : Addr
  m_HasRound : mg "HasRound" = some (.ref f_HasRound)
  f_UselessLink : Addr
  m_UselessLink : mg "UselessLink" = some (.ref f_UselessLink)
  f_Network : Addr
  m_Network : mg "Network" = some (.ref f_Network)
  cl_Network : Cls K f_Network
  ic_Network : C8.InsC K f_Network
  na_Network_start : NoAttr K f_Network "_start"
  na_Network_end : NoAttr K f_Network "_end"
  na_Network_links : NoAttr K f_Network "_links"
  na_Network_places : NoAttr K f_Network "_places"
  na_Network_behind : NoAttr K f_Network "_behind"
  f_valid_name : Addr
  d_valid_name : FuncData
  F_valid_name : Fun K "valid_name" "valid_name" s_valid_name f_valid_name d_valid_name
  b_valid_name : Binds K d_valid_name ["text"] []
  m_valid_name : mg "valid_name" = some (.ref f_valid_name)
  f_stops : Addr
  d_stops : FuncData
  F_stops : Fun K "stops" "stops" s_stops f_stops d_stops
  b_stops : Binds K d_stops ["network", "names", "first"] []
  m_stops : mg "stops" = some (.ref f_stops)
  f_connects : Addr
  d_connects : FuncData
  F_connects : Fun K "connects" "connects" s_connects f_connects d_connects
  b_connects : Binds K d_connects ["network", "names", "first", "last"] []
  m_connects : mg "connects" = some (.ref f_connects)
  f_ordered_places : Addr
  d_ordered_places : FuncData
  F_ordered_places : Fun K "ordered_places" "ordered_places" s_ordered_places f_ordered_places d_ordered_places
  b_ordered_places : Binds K d_ordered_places ["table", "start", "end"] []
  m_ordered_places : mg "ordered_places" = some (.ref f_ordered_places)
  f_places_behind : Addr
  d_places_behind : FuncData
  F_places_behind : Fun K "places_behind" "places_behind" s_places_behind f_places_behind d_places_behind
  b_places_behind : Binds K d_places_behind ["table", "first"] []
  m_places_behind : mg "places_behind" = some (.ref f_places_behind)
  f_useful_names : Addr
  d_useful_names : FuncData
  F_useful_names : Fun K "useful_names" "useful_names" s_useful_names f_useful_names d_useful_names
  b_useful_names : Binds K d_useful_names ["table", "start", "end"] []
  m_useful_names : mg "useful_names" = some (.ref f_useful_names)
  f_check_ends : Addr
  d_check_ends : FuncData
  F_check_ends : Fun K "check_ends" "check_ends" s_check_ends f_check_ends d_check_ends
  b_check_ends : Binds K d_check_ends ["start", "end"] []
  m_check_ends : mg "check_ends" = some (.ref f_check_ends)
  f_check_names : Addr
  d_check_names : FuncData
  F_check_names : Fun K "check_names" "check_names" s_check_names f_check_names d_check_names
  b_check_names : Binds K d_check_names ["links"] []
  m_check_names : mg "check_names" = some (.ref f_check_names)
  f_check_rounds : Addr
  d_check_rounds : FuncData
  F_check_rounds : Fun K "check_rounds" "check_rounds" s_check_rounds f_check_rounds d_check_rounds
  b_check_rounds : Binds K d_check_rounds ["table"] []
  m_check_rounds : mg "check_rounds" = some (.ref f_check_rounds)
  f_check_use : Addr
  d_check_use : FuncData
  F_check_use : Fun K "check_use" "check_use" s_check_use f_check_use d_check_use
  b_check_use : Binds K d_check_use ["table", "start", "end"] []
  m_check_use : mg "check_use" = some (.ref f_check_use)
  f_check_pair : Addr
  d_check_pair : FuncData
  F_check_pair : Fun K "check_pair" "check_pair" s_check_pair f_check_pair d_check_pair
  b_check_pair : Binds K d_check_pair ["network", "pair"] []
  m_check_pair : mg "check_pair" = some (.ref f_check_pair)
  f_apart : Addr
  d_apart : FuncData
  F_apart : Fun K "apart" "apart" s_apart f_apart d_apart
  b_apart : Binds K d_apart ["rows"] []
  m_apart : mg "apart" = some (.ref f_apart)
  f_check_paper : Addr
  d_check_paper : FuncData
  F_check_paper : Fun K "check_paper" "check_paper" s_check_paper f_check_paper d_check_paper
  b_check_paper : Binds K d_check_paper ["network", "paper"] []
  m_check_paper : mg "check_paper" = some (.ref f_check_paper)
  f_is_right : Addr
  d_is_right : FuncData
  F_is_right : Fun K "is_right" "is_right" s_is_right f_is_right d_is_right
  b_is_right : Binds K d_is_right ["network", "plan"] []
  m_is_right : mg "is_right" = some (.ref f_is_right)
  f_is_formed : Addr
  d_is_formed : FuncData
  F_is_formed : Fun K "is_formed" "is_formed" s_is_formed f_is_formed d_is_formed
  b_is_formed : Binds K d_is_formed ["plan"] []
  m_is_formed : mg "is_formed" = some (.ref f_is_formed)
  f_is_tailed : Addr
  d_is_tailed : FuncData
  F_is_tailed : Fun K "is_tailed" "is_tailed" s_is_tailed f_is_tailed d_is_tailed
  b_is_tailed : Binds K d_is_tailed ["plan"] []
  m_is_tailed : mg "is_tailed" = some (.ref f_is_tailed)
  f_plan_ends : Addr
  d_plan_ends : FuncData
  F_plan_ends : Fun K "plan_ends" "plan_ends" s_plan_ends f_plan_ends d_plan_ends
  b_plan_ends : Binds K d_plan_ends ["network", "plan"] []
  m_plan_ends : mg "plan_ends" = some (.ref f_plan_ends)
  f_plan_joints : Addr
  d_plan_joints : FuncData
  F_plan_joints : Fun K "plan_joints" "plan_joints" s_plan_joints f_plan_joints d_plan_joints
  b_plan_joints : Binds K d_plan_joints ["network", "plan"] []
  m_plan_joints : mg "plan_joints" = some (.ref f_plan_joints)
  f_start : Addr
  d_start : FuncData
  F_start : Fun K "_law_start" "_law_start" s_start f_start d_start
  b_start : Binds K d_start ["_law_script"] []
  m_start : mg "_law_start" = some (.ref f_start)
  f_take : Addr
  d_take : FuncData
  F_take : Fun K "_law_take" "_law_take" s_take f_take d_take
  b_take : Binds K d_take ["_law_state", "_law_limit"] []
  m_take : mg "_law_take" = some (.ref f_take)
  f_planted : Addr
  d_planted : FuncData
  F_planted : Fun K "_law_planted" "_law_planted" s_planted f_planted d_planted
  b_planted : Binds K d_planted ["_law_state"] []
  m_planted : mg "_law_planted" = some (.ref f_planted)
  f_shuffled : Addr
  d_shuffled : FuncData
  F_shuffled : Fun K "_law_shuffled" "_law_shuffled" s_shuffled f_shuffled d_shuffled
  b_shuffled : Binds K d_shuffled ["_law_state", "_law_items"] []
  m_shuffled : mg "_law_shuffled" = some (.ref f_shuffled)
  f_places : Addr
  d_places : FuncData
  F_places : Fun K "_law_places" "_law_places" s_places f_places d_places
  b_places : Binds K d_places ["_law_links", "_law_names"] []
  m_places : mg "_law_places" = some (.ref f_places)
  f_between : Addr
  d_between : FuncData
  F_between : Fun K "_law_between" "_law_between" s_between f_between d_between
  b_between : Binds K d_between ["_law_row", "_law_first", "_law_last"] []
  m_between : mg "_law_between" = some (.ref f_between)
  f_pair : Addr
  d_pair : FuncData
  F_pair : Fun K "_law_pair" "_law_pair" s_pair f_pair d_pair
  b_pair : Binds K d_pair ["_law_links", "_law_start_here", "_law_end", "_law_seven"] []
  m_pair : mg "_law_pair" = some (.ref f_pair)
  f_merged : Addr
  d_merged : FuncData
  F_merged : Fun K "_law_merged" "_law_merged" s_merged f_merged d_merged
  b_merged : Binds K d_merged ["_law_state", "_law_links", "_law_rows"] []
  m_merged : mg "_law_merged" = some (.ref f_merged)
  f_changed : Addr
  d_changed : FuncData
  F_changed : Fun K "_law_changed" "_law_changed" s_changed f_changed d_changed
  b_changed : Binds K d_changed ["_law_state", "_law_names", "_law_seven"] []
  m_changed : mg "_law_changed" = some (.ref f_changed)
  f_BadName_init : Addr
  d_BadName_init : FuncData
  F_BadName_init : Fun K "__init__" "BadName.__init__" s_BadName_init f_BadName_init d_BadName_init
  b_BadName_init : Binds K d_BadName_init ["self", "name"] []
  a_BadName_init : PySem.W.findIn K (.ref f_BadName) "__init__" = some (some (.ref f_BadName_init))
  i_BadName_init : PySem.W.isFn K (.ref f_BadName_init) = true
  f_DuplicateName_init : Addr
  d_DuplicateName_init : FuncData
  F_DuplicateName_init : Fun K "__init__" "DuplicateName.__init__" s_DuplicateName_init f_DuplicateName_init d_DuplicateName_init
  b_DuplicateName_init : Binds K d_DuplicateName_init ["self", "name"] []
  a_DuplicateName_init : PySem.W.findIn K (.ref f_DuplicateName) "__init__" = some (some (.ref f_DuplicateName_init))
  i_DuplicateName_init : PySem.W.isFn K (.ref f_DuplicateName_init) = true
  f_UnknownName_init : Addr
  d_UnknownName_init : FuncData
  F_UnknownName_init : Fun K "__init__" "UnknownName.__init__" s_UnknownName_init f_UnknownName_init d_UnknownName_init
  b_UnknownName_init : Binds K d_UnknownName_init ["self", "name"] []
  a_UnknownName_init : PySem.W.findIn K (.ref f_UnknownName) "__init__" = some (some (.ref f_UnknownName_init))
  i_UnknownName_init : PySem.W.isFn K (.ref f_UnknownName_init) = true
  f_BadCount_init : Addr
  d_BadCount_init : FuncData
  F_BadCount_init : Fun K "__init__" "BadCount.__init__" s_BadCount_init f_BadCount_init d_BadCount_init
  b_BadCount_init : Binds K d_BadCount_init ["self", "count"] []
  a_BadCount_init : PySem.W.findIn K (.ref f_BadCount) "__init__" = some (some (.ref f_BadCount_init))
  i_BadCount_init : PySem.W.isFn K (.ref f_BadCount_init) = true
  f_HasRound_init : Addr
  d_HasRound_init : FuncData
  F_HasRound_init : Fun K "__init__" "HasRound.__init__" s_HasRound_init f_HasRound_init d_HasRound_init
  b_HasRound_init : Binds K d_HasRound_init ["self", "name"] []
  a_HasRound_init : PySem.W.findIn K (.ref f_HasRound) "__init__" = some (some (.ref f_HasRound_init))
  i_HasRound_init : PySem.W.isFn K (.ref f_HasRound_init) = true
  f_UselessLink_init : Addr
  d_UselessLink_init : FuncData
  F_UselessLink_init : Fun K "__init__" "UselessLink.__init__" s_UselessLink_init f_UselessLink_init d_UselessLink_init
  b_UselessLink_init : Binds K d_UselessLink_init ["self", "name"] []
  a_UselessLink_init : PySem.W.findIn K (.ref f_UselessLink) "__init__" = some (some (.ref f_UselessLink_init))
  i_UselessLink_init : PySem.W.isFn K (.ref f_UselessLink_init) = true
  f_Network_init : Addr
  d_Network_init : FuncData
  F_Network_init : Fun K "__init__" "Network.__init__" s_Network_init f_Network_init d_Network_init
  b_Network_init : Binds K d_Network_init ["self", "links", "start", "end"] []
  a_Network_init : PySem.W.findIn K (.ref f_Network) "__init__" = some (some (.ref f_Network_init))
  i_Network_init : PySem.W.isFn K (.ref f_Network_init) = true
  mk_Network : Mk K f_Network f_Network_init
  f_Network_start : Addr
  d_Network_start : FuncData
  F_Network_start : Fun K "start" "Network.start" s_Network_start f_Network_start d_Network_start
  b_Network_start : Binds K d_Network_start ["self"] []
  p0_Network_start : Addr
  p_Network_start : PropOf K f_Network "start" p0_Network_start f_Network_start
  f_Network_end : Addr
  d_Network_end : FuncData
  F_Network_end : Fun K "end" "Network.end" s_Network_end f_Network_end d_Network_end
  b_Network_end : Binds K d_Network_end ["self"] []
  p0_Network_end : Addr
  p_Network_end : PropOf K f_Network "end" p0_Network_end f_Network_end
  f_Network_getitem : Addr
  d_Network_getitem : FuncData
  F_Network_getitem : Fun K "__getitem__" "Network.__getitem__" s_Network_getitem f_Network_getitem d_Network_getitem
  b_Network_getitem : Binds K d_Network_getitem ["self", "name"] []
  a_Network_getitem : PySem.W.findIn K (.ref f_Network) "__getitem__" = some (some (.ref f_Network_getitem))
  i_Network_getitem : PySem.W.isFn K (.ref f_Network_getitem) = true
  f_Network_contains : Addr
  d_Network_contains : FuncData
  F_Network_contains : Fun K "__contains__" "Network.__contains__" s_Network_contains f_Network_contains d_Network_contains
  b_Network_contains : Binds K d_Network_contains ["self", "name"] []
  a_Network_contains : PySem.W.findIn K (.ref f_Network) "__contains__" = some (some (.ref f_Network_contains))
  i_Network_contains : PySem.W.isFn K (.ref f_Network_contains) = true
  cr_Network : ClX.CRead K f_Network (.type "type")
  tv_Network_MOST_LINKS : Tok
  cv_Network_MOST_LINKS : ClX.CVal K f_Network (.type "type") "MOST_LINKS" (V.int 10) (.int 10 tv_Network_MOST_LINKS)
  tv_Network_MOST_PLACES : Tok
  cv_Network_MOST_PLACES : ClX.CVal K f_Network (.type "type") "MOST_PLACES" (V.int 8) (.int 8 tv_Network_MOST_PLACES)
  dn_Network_getitem : DunC K f_Network "__getitem__" f_Network_getitem
  dn_Network_contains : DunC K f_Network "__contains__" f_Network_contains
  ox_BadName : OexC K f_BadName
  ix_BadName : PySem.W.findIn K (.ref f_BadName) "__init__" = some (some (.ref f_BadName_init))
  tx_BadName : PySem.W.typeIn K (.ref f_BadName_init) = some (.type "function")
  xf_BadName : XfC K f_BadName
  ec_BadName : ExcC K f_BadName
  no_BadName_name : PySem.W.findIn K (.ref f_BadName) "name" = some none
  ox_DuplicateName : OexC K f_DuplicateName
  ix_DuplicateName : PySem.W.findIn K (.ref f_DuplicateName) "__init__" = some (some (.ref f_DuplicateName_init))
  tx_DuplicateName : PySem.W.typeIn K (.ref f_DuplicateName_init) = some (.type "function")
  xf_DuplicateName : XfC K f_DuplicateName
  ec_DuplicateName : ExcC K f_DuplicateName
  no_DuplicateName_name : PySem.W.findIn K (.ref f_DuplicateName) "name" = some none
  ox_UnknownName : OexC K f_UnknownName
  ix_UnknownName : PySem.W.findIn K (.ref f_UnknownName) "__init__" = some (some (.ref f_UnknownName_init))
  tx_UnknownName : PySem.W.typeIn K (.ref f_UnknownName_init) = some (.type "function")
  xf_UnknownName : XfC K f_UnknownName
  ec_UnknownName : ExcC K f_UnknownName
  no_UnknownName_name : PySem.W.findIn K (.ref f_UnknownName) "name" = some none
  ox_BadCount : OexC K f_BadCount
  ix_BadCount : PySem.W.findIn K (.ref f_BadCount) "__init__" = some (some (.ref f_BadCount_init))
  tx_BadCount : PySem.W.typeIn K (.ref f_BadCount_init) = some (.type "function")
  xf_BadCount : XfC K f_BadCount
  ec_BadCount : ExcC K f_BadCount
  no_BadCount_count : PySem.W.findIn K (.ref f_BadCount) "count" = some none
  ox_HasRound : OexC K f_HasRound
  ix_HasRound : PySem.W.findIn K (.ref f_HasRound) "__init__" = some (some (.ref f_HasRound_init))
  tx_HasRound : PySem.W.typeIn K (.ref f_HasRound_init) = some (.type "function")
  xf_HasRound : XfC K f_HasRound
  ec_HasRound : ExcC K f_HasRound
  no_HasRound_name : PySem.W.findIn K (.ref f_HasRound) "name" = some none
  ox_UselessLink : OexC K f_UselessLink
  ix_UselessLink : PySem.W.findIn K (.ref f_UselessLink) "__init__" = some (some (.ref f_UselessLink_init))
  tx_UselessLink : PySem.W.typeIn K (.ref f_UselessLink_init) = some (.type "function")
  xf_UselessLink : XfC K f_UselessLink
  ec_UselessLink : ExcC K f_UselessLink
  no_UselessLink_name : PySem.W.findIn K (.ref f_UselessLink) "name" = some none
  kb_check_pair_0_pair_network : KBinds K d_check_pair ["network", "pair"] ["pair", "network"] (kPerm [1, 0]) (kPerm [1, 0])
  t_BRIDGED : Tok
  c_BRIDGED : mg "BRIDGED" = some (.str ("bridged" : Str) t_BRIDGED)
  t_CHAIN : Tok
  c_CHAIN : mg "CHAIN" = some (.str ("chain" : Str) t_CHAIN)
  t_DIGITS : Tok
  c_DIGITS : mg "DIGITS" = some (.str ("0123456789" : Str) t_DIGITS)
  t_FORK : Tok
  c_FORK : mg "FORK" = some (.str ("fork" : Str) t_FORK)
  t_LETTERS : Tok
  c_LETTERS : mg "LETTERS" = some (.str ("abcdefghijklmnopqrstuvwxyz" : Str) t_LETTERS)
  t_LINK : Tok
  c_LINK : mg "LINK" = some (.str ("link" : Str) t_LINK)
  t_LONGEST_NAME : Tok
  c_LONGEST_NAME : mg "LONGEST_NAME" = some (.int 6 t_LONGEST_NAME)
  t_TAIL : Tok
  c_TAIL : mg "TAIL" = some (.str ("tail" : Str) t_TAIL)
  t_WOVEN : Tok
  c_WOVEN : mg "WOVEN" = some (.str ("woven" : Str) t_WOVEN)
  n_abs : mg "abs" = none
  n_all : mg "all" = none
  n_any : mg "any" = none
  n_bool : mg "bool" = none
  n_enumerate : mg "enumerate" = none
  n_int : mg "int" = none
  n_isinstance : mg "isinstance" = none
  n_len : mg "len" = none
  n_list : mg "list" = none
  n_max : mg "max" = none
  n_min : mg "min" = none
  n_range : mg "range" = none
  n_set : mg "set" = none
  n_sorted : mg "sorted" = none
  n_tuple : mg "tuple" = none
  n_zip : mg "zip" = none
/-! ### the law's own draws: a list of cells, a place, a count -/
section
variable {P : Program} {w : World} {K : PySem.W.Frag} {mg : Str → Option Value} {base : Heap}
/-- the state's objects as they stand; G is what else is known, the state is none of it -/
structure DS (G H : Hp) (s b : Addr) (cs : List Int) (i n : Nat) : Prop where
  same : Same G H
  fs : G s = none
  fb : G b = none
  hs : H s = some (.lst [.ref b, .int (i : Int), .int (n : Int)])
  hb : H b = some (.lst (cs.map V.int))
  len : cs.length ≤ 63
theorem DS.sb {G H : Hp} {s b : Addr} {cs : List Int} {i n : Nat} (d : DS G H s b cs i n) : s ≠ b := ne_of d.hs d.hb (by cases cs <;> simp)
/-- at most m draws were made -/
def DSt (G H : Hp) (s : Addr) (m : Nat) : Prop := ∃ (b : Addr) (cs : List Int) (i n : Nat), DS G H s b cs i n ∧ n ≤ m
theorem DSt.same {G H : Hp} {s : Addr} {m : Nat} (d : DSt G H s m) : Same G H := let ⟨_, _, _, _, d, _⟩ := d; d.same
theorem DSt.mono {G H : Hp} {s : Addr} {m m' : Nat} (d : DSt G H s m) (h : m ≤ m') : DSt G H s m' := let ⟨b, cs, i, n, d, hn⟩ := d; ⟨b, cs, i, n, d, Nat.le_trans hn h⟩
/-- what else is known of the heap may be less, the rest may be more -/
theorem DSt.less {G G' H : Hp} {s : Addr} {m : Nat} (d : DSt G H s m) (h : Same G' G) : DSt G' H s m := by
  obtain ⟨b, cs, i, n, d, hn⟩ := d
  have fr : ∀ a, G a = none → G' a = none := fun a e => h.free e
  exact ⟨b, cs, i, n, ⟨h.trans d.same, fr _ d.fs, fr _ d.fb, d.hs, d.hb, d.len⟩, hn⟩
/-- all that stands behind stays; known is what was known -/
theorem DSt.on {G H H' : Hp} {s : Addr} {m : Nat} (d : DSt G H s m) (h : Same H H') : DSt G H' s m := by
  obtain ⟨b, cs, i, n, d, hn⟩ := d
  exact ⟨b, cs, i, n, ⟨d.same.trans h, d.fs, d.fb, h _ _ d.hs, h _ _ d.hb, d.len⟩, hn⟩
theorem DSt.free {G H : Hp} {s : Addr} {m : Nat} {p : Addr} (d : DSt G H s m) (hp : H p = none) : G p = none := d.same.free hp
/-- a new thing is known from now on -/
theorem DSt.learn {G H H' : Hp} {s : Addr} {m : Nat} {p : Addr} {o : HO} (d : DSt G H s m) (sm : Same H H') (hp : H p = none) (hp' : H' p = some o) : DSt (upd G p o) H' s m := by
  obtain ⟨b, cs, i, n, d, hn⟩ := d
  have n1 : s ≠ p := ne_of_none d.hs hp
  have n2 : b ≠ p := ne_of_none d.hb hp
  refine ⟨b, cs, i, n, ⟨fun a u e => ?_, ?_, ?_, sm _ _ d.hs, sm _ _ d.hb, d.len⟩, hn⟩
  · by_cases ha : a = p
    · subst ha; rw [upd_same] at e; rw [hp']; exact e
    · rw [upd_ne ha] at e; exact sm _ _ (d.same a u e)
  · rw [upd_ne n1]; exact d.fs
  · rw [upd_ne n2]; exact d.fb
/-- all but some known things stays: what stands now, but for the state, is known from then on -/
def lessOf (H : Hp) (s b : Addr) : Hp := fun c => if c = s ∨ c = b then none else H c
theorem DSt.moved {G H H' : Hp} {s : Addr} {m : Nat} (d : DSt G H s m) (ch : Addr → Prop) (hc : ∀ c, ch c → G c ≠ none) (h : ∀ c o, ¬ ch c → H c = some o → H' c = some o) :
    ∃ G', DSt G' H' s m ∧ (∀ c o, H' c = some o → (∀ xs, o ≠ .lst xs) → G' c = some o) ∧ (∀ c o, H' c = some o → G c ≠ none → G' c = some o) ∧ (∀ c o, H' c = some o → H c = none → G' c = some o) := by
  obtain ⟨b, cs, i, n, d, hn⟩ := d
  have ns : ¬ ch s := fun z => hc s z d.fs
  have nb : ¬ ch b := fun z => hc b z d.fb
  have es := h s _ ns d.hs
  have eb := h b _ nb d.hb
  refine ⟨lessOf H' s b, ⟨b, cs, i, n, ⟨fun c o e => ?_, by unfold lessOf; rw [if_pos (.inl rfl)], by unfold lessOf; rw [if_pos (.inr rfl)], es, eb, d.len⟩, hn⟩, fun c o e hx => ?_, fun c o e hx => ?_, fun c o e hx => ?_⟩
  · unfold lessOf at e
    by_cases hq : c = s ∨ c = b
    · rw [if_pos hq] at e; cases e
    · rw [if_neg hq] at e; exact e
  · unfold lessOf
    rw [if_neg]
    · exact e
    · rintro (q | q)
      · rw [q, es] at e; exact hx _ (Option.some.inj e).symm
      · rw [q, eb] at e; exact hx _ (Option.some.inj e).symm
  · unfold lessOf
    rw [if_neg]
    · exact e
    · rintro (q | q)
      · exact hx (q ▸ d.fs)
      · exact hx (q ▸ d.fb)
  · unfold lessOf
    rw [if_neg]
    · exact e
    · rintro (q | q)
      · rw [q, d.hs] at hx; cases hx
      · rw [q, d.hb] at hx; cases hx
def spStart (K : PySem.W.Frag) : Sp := fun vs H Q _ => ∃ (a : Addr) (ns : List Int), vs = [.ref a] ∧ SqL K H a (ns.map V.int) ∧ ns.length ≤ 63 ∧ ∀ (s : Addr) (H' : Hp), DSt H H' s 0 → Q (.ref s) H'
def spTake : Sp := fun vs H Q _ => ∃ (G : Hp) (s : Addr) (m : Nat) (sz : Int), vs = [.ref s, .int sz] ∧ DSt G H s m ∧ m < 1000000 ∧ 0 < sz ∧ sz < 2 ^ 200 ∧
  ∀ (r : Int) (H' : Hp), 0 ≤ r → r < sz → DSt G H' s (m + 1) → Q (.int r) H'
theorem take_more {α : Type} : ∀ {l : List α} {i : Nat} {x : α}, l[i]? = some x → l.take (i + 1) = l.take i ++ [x]
  | [], i, x, h => by simp at h
  | a :: l, 0, x, h => by
    have e : a = x := Option.some.inj h
    subst e
    rfl
  | a :: l, i + 1, x, h => by
    have ih := take_more (l := l) (i := i) (x := x) h
    show a :: l.take (i + 1) = a :: l.take i ++ [x]
    rw [ih]
    rfl
theorem ok_start (T : Txt K mg) : FnOk P w K mg base CX0 1 T.f_start T.d_start ["_law_script"] (spStart K) := by
  refine T.F_start.ok sc_start (fun vs H Q E h => ?_) (fun cdv A outer s H vs Q E hr h => ?_)
  · obtain ⟨a, ns, rfl, _⟩ := h
    rfl
  · obtain ⟨a, ns, rfl, hS, hlen, k⟩ := h
    refine ⟨_, (pss_one (ps_ret (pe_lst (pa_cons (pe_lc (own := [("_law_cell", 1)]) (g := gName 1) (tt := tYes) rfl sc_start.nd (pi_list (pv 0)) (blkOk_by (N := ["_law_script", "_law_cell"]) (sc := defScope s_start) (by decide +kernel)) (fun _ _ _ _ _ => pg_name (i := 1) sc_start.nd rfl (Or.inl rfl)) (fun _ _ _ _ _ => pts_nil) (fun _ _ _ _ _ => (pe_callTy call_int1 (by rfl) T.n_int (by decide +kernel) (pa_cons (pv 1) pa_nil)))) (pa_cons pe_int (pa_cons pe_int pa_nil)))))), ?_⟩
    refine ⟨_, rfl, a, rfl, ⟨_, hS⟩, fun D hD => ?_⟩
    refine lc_list (K := K) (a := a) (xs := ns.map V.int) (fun i H1 => H1 D = some (.lst ((ns.take i).map V.int)) ∧ Same H H1) ⟨upd_same, same_upd hD⟩ (fun i H1 _ ⟨_, sm⟩ => sm.seq hS) ?_ ?_
    · intro i x H1 hi ⟨eD, sm⟩
      obtain ⟨z, ez, rfl⟩ : ∃ z, ns[i]? = some z ∧ x = V.int z := by
        rw [List.getElem?_map] at hi
        cases e : ns[i]? with
        | none => rw [e] at hi; cases hi
        | some z => rw [e] at hi; exact ⟨z, rfl, (Option.some.inj hi).symm⟩
      have hi63 := (List.getElem?_eq_some_iff.mp ez).1
      refine ⟨rfl, _, rfl, .inl ⟨z, rfl, _, eD, small1000 (by rw [List.length_map, List.length_take]; omega), ?_, same_mut sm hD⟩⟩
      rw [upd_same, take_more ez, List.map_append]
      rfl
    · intro H1 ⟨eD, sm⟩
      have et : ns.take (ns.map V.int).length = ns := by rw [List.length_map]; exact List.take_length
      rw [et] at eD
      refine ⟨by show 3 ≤ sizeLine; decide, fun st hst => ?_⟩
      have nDst : D ≠ st := ne_of_none eD hst
      refine k st _ ⟨D, ns, 0, 0, ⟨sm.trans (same_upd hst), sm.free hst, hD, upd_same, by rw [upd_ne nDst]; exact eD, hlen⟩, Nat.le_refl _⟩
theorem big1 : (0 : Int) < 2147483647 := by decide
theorem big2 : (0 : Int) < 2147483629 := by decide
theorem big3 : (0 : Int) < 16 := by decide
theorem pw2 (c n : Int) (hc : 0 ≤ c) (hc2 : c < 2147483647) (hn : 0 ≤ n) (hn2 : n ≤ 1000001) : (c * 16807 + n * 40692 + 7).natAbs < 2 ^ 64 := by omega
theorem ok_take (T : Txt K mg) : FnOk P w K mg base CX0 1 T.f_take T.d_take ["_law_state", "_law_limit"] spTake := by
  refine T.F_take.ok sc_take (fun vs H Q E h => ?_) (fun cdv A outer s H vs Q E hr h => ?_)
  · obtain ⟨G, a, m, sz, rfl, _⟩ := h
    rfl
  · obtain ⟨G, a, m, sz, rfl, ⟨b, cs, i, n, d, hn⟩, hm, hs0, hs2, k⟩ := h
    refine ⟨_, (pss_cons (ps_set (i := 2) sc_take.nd rfl (Or.inl rfl) (pe_ix ix_list (pv 0) pe_int (fun _ _ => rfl)))
    (pss_cons (ps_asg (pe_op op_add (pe_ix ix_list (pv 0) pe_int (fun _ _ => rfl)) pe_int) (pg_sub (pv 0) pe_int set_list))
    (pss_cons (ps_set (i := 3) sc_take.nd rfl (Or.inl rfl) (pe_op op_mod (pe_callTy call_int1 (by rfl) T.n_int (by decide +kernel) (pa_cons (pe_ix ix_list (pv 0) pe_int (fun _ _ => rfl)) pa_nil)) (pe_callB (call_max2 rfl) (by rfl) T.n_max (by decide +kernel) (pa_cons pe_int (pa_cons (pe_callB call_len_seq (by rfl) T.n_len (by decide +kernel) (pa_cons (pv 2) pa_nil)) pa_nil)))))
    (pss_cons (ps_set (i := 4) sc_take.nd rfl (Or.inl rfl) pe_int)
    (C8.pss_cut (ps_if (pt_truth (pv 2) (by intro _; rfl))
      (pss_one (ps_set (i := 4) sc_take.nd rfl (Or.inl rfl) (pe_ix ix_list (pv 2) (pv 3) (fun _ _ => rfl))))
      pss_nil)
    (pss_cons (ps_if (pt_cmpR op_ge (pe_callB call_abs (by rfl) T.n_abs (by decide +kernel) (pa_cons (pv 4) pa_nil)) (pe_op op_pow pe_int pe_int) (nomark _))
      (pss_cons (ps_asg (pe_op op_fdivW (pe_callB call_abs (by rfl) T.n_abs (by decide +kernel) (pa_cons (pv 4) pa_nil)) (pv 1)) (pg_sub (pv 2) (pv 3) set_list))
    (pss_one (ps_ret (pe_op op_mod (pe_callB call_abs (by rfl) T.n_abs (by decide +kernel) (pa_cons (pv 4) pa_nil)) (pv 1)))))
      pss_nil)
    (pss_cons (ps_asg (pe_op op_add (pe_ix ix_list (pv 0) pe_int (fun _ _ => rfl)) pe_int) (pg_sub (pv 0) pe_int set_list))
    (pss_cons (ps_set (i := 5) sc_take.nd rfl (Or.inl rfl) (pe_op op_mod (pe_op op_pow (pe_callTy call_int1 (by rfl) T.n_int (by decide +kernel) (pa_cons (pe_op op_add (pe_op op_add (pe_op op_mul (pe_op op_mod (pe_callTy call_int1 (by rfl) T.n_int (by decide +kernel) (pa_cons (pv 4) pa_nil)) pe_int) pe_int) (pe_op op_mul (pe_ix ix_list (pv 0) pe_int (fun _ _ => rfl)) pe_int)) pe_int) pa_nil)) pe_int) pe_int))
    (pss_cons (ps_set (i := 5) sc_take.nd rfl (Or.inl rfl) (pe_op op_mod (pe_op op_pow (pe_callTy call_int1 (by rfl) T.n_int (by decide +kernel) (pa_cons (pe_op op_add (pe_op op_add (pe_op op_mul (pv 5) pe_int) (pe_op op_mul (pe_ix ix_list (pv 0) pe_int (fun _ _ => rfl)) pe_int)) pe_int) pa_nil)) pe_int) pe_int))
    (pss_one (ps_ret (pe_op op_mod (pe_op op_fdivW (pv 5) pe_int) (pv 1))))))))))))), ?_⟩
    refine ⟨_, rfl, a, _, 0, _, rfl, rfl, SqL.of d.hs, rfl, ?_⟩
    refine ⟨_, rfl, a, _, 2, _, rfl, rfl, SqL.of d.hs, rfl, _, _, rfl, rfl, ?_⟩
    refine ⟨_, rfl, a, _, 2, 2, rfl, rfl, d.hs, rfl, ?_⟩
    have d1 : DS G (upd H a (.lst [V.ref b, V.int (i : Int), V.int ((n + 1 : Nat) : Int)])) a b cs i (n + 1) :=
      ⟨same_mut d.same d.fs, d.fs, d.fb, upd_same, by rw [upd_ne d.sb.symm]; exact d.hb, d.len⟩
    refine ⟨_, rfl, a, _, 1, _, rfl, rfl, SqL.of d1.hs, rfl, .inl ⟨_, rfl, ?_⟩⟩
    refine ⟨_, rfl, b, _, rfl, .inl (SqL.of d1.hb), _, _, rfl, _, _, rfl, rfl, ?_, ?_⟩
    · split <;> omega
    have lm : (cs.map V.int).length = cs.length := List.length_map _
    obtain ⟨j, ej, hj⟩ : ∃ j : Nat, (i : Int) % (if (cs.length : Int) > 1 then (cs.length : Int) else 1) = (j : Int) ∧ (cs ≠ [] → j < cs.length) := by
      generalize hz : (if (cs.length : Int) > 1 then (cs.length : Int) else 1) = z
      have p : 0 < z := by rw [← hz]; split <;> omega
      have q : cs ≠ [] → z = (cs.length : Int) := fun hne => by
        have hp : 0 < cs.length := List.length_pos_iff.mpr hne
        rw [← hz]; split <;> omega
      have h0 := Int.emod_nonneg (i : Int) (show z ≠ 0 by omega)
      have h1 := Int.emod_lt_of_pos (i : Int) p
      refine ⟨((i : Int) % z).toNat, by omega, fun hne => ?_⟩
      have := q hne
      omega
    rw [← lm] at ej
    refine ⟨fun σ H' => ∃ c jv : Int, σ = [some (.ref a), some (.int sz), some (.ref b), some (.int jv), some (.int c), none] ∧ jv = (j : Int) ∧ DS G H' a b cs i (n + 1) ∧ (cs = [] ∧ c = 0 ∨ cs[j]? = some c), ?_, ?_⟩
    · refine ⟨_, rfl, !(cs.map V.int).isEmpty, .inl ⟨_, SqL.of d1.hb, rfl⟩, ?_⟩
      by_cases he : cs = []
      · rw [show (!(cs.map V.int).isEmpty) = false by rw [he]; rfl]
        exact iteF ⟨0, _, rfl, ej, d1, .inl ⟨he, rfl⟩⟩
      · rw [show (!(cs.map V.int).isEmpty) = true by cases cs with | nil => exact absurd rfl he | cons _ _ => rfl]
        have hjl := hj he
        refine iteT ⟨_, rfl, _, rfl, b, _, _, _, rfl, rfl, SqL.of d1.hb, at_of ej (by rw [List.getElem?_map, List.getElem?_eq_getElem hjl]; rfl), ?_⟩
        exact ⟨cs[j], _, rfl, ej, d1, .inr (List.getElem?_eq_getElem hjl)⟩
    rintro σ H' ⟨c, jv, rfl, ejv, d2, hc⟩
    refine ⟨_, rfl, c, rfl, 10, 18, rfl, rfl, ⟨by decide, by decide, by decide⟩, _, _, rfl, rfl, _, rfl, ite2 (fun hbig => ?_) fun _ => ?_⟩
    · have hbig' := of_decide_eq_true hbig
      have hcj : cs[j]? = some c := by
        rcases hc with ⟨_, e⟩ | e
        · exfalso
          rw [e] at hbig'
          revert hbig'
          decide
        · exact e
      have hjl := (List.getElem?_eq_some_iff.mp hcj).1
      refine ⟨_, rfl, c, rfl, _, rfl, _, sz, rfl, rfl, wide_div (b := 200) hs0 (by omega) (by decide) (by decide), ?_⟩
      refine ⟨_, rfl, _, rfl, b, _, jv, j, rfl, rfl, d2.hb, by rw [ejv, lm]; exact ix_nat hjl, ?_⟩
      generalize hq : (if c < 0 then -c else c) = q
      have q0 : 0 ≤ q := by rw [← hq]; split <;> omega
      refine ⟨_, rfl, c, rfl, _, rfl, q, sz, by rw [← hq], rfl, hs0, ?_⟩
      refine k _ _ (Int.emod_nonneg _ (by omega)) (Int.emod_lt_of_pos _ hs0) ⟨b, cs.set j (q / sz), i, n + 1, ?_, Nat.succ_le_succ hn⟩
      refine ⟨same_mut d2.same d2.fb, d2.fs, d2.fb, by rw [upd_ne d2.sb]; exact d2.hs, ?_, by rw [List.length_set]; exact d2.len⟩
      rw [upd_same, ← hq, List.map_set]
    refine ⟨_, rfl, a, _, 1, _, rfl, rfl, SqL.of d2.hs, rfl, _, _, rfl, rfl, ?_⟩
    refine ⟨_, rfl, a, _, 1, 1, rfl, rfl, d2.hs, rfl, ?_⟩
    have d3 : DS G (upd H' a (.lst [V.ref b, V.int ((i + 1 : Nat) : Int), V.int ((n + 1 : Nat) : Int)])) a b cs (i + 1) (n + 1) :=
      ⟨same_mut d2.same d2.fs, d2.fs, d2.fb, upd_same, by rw [upd_ne d2.sb.symm]; exact d2.hb, d2.len⟩
    have c0 : 0 ≤ c % 2147483647 := Int.emod_nonneg _ (by decide)
    have c1 : c % 2147483647 < 2147483647 := Int.emod_lt_of_pos _ (by decide)
    refine ⟨_, rfl, .inl ⟨_, rfl, _, _, rfl, rfl, big1, ?_⟩⟩
    refine ⟨_, _, rfl, rfl, .inr ⟨by decide, by decide⟩, ?_⟩
    refine ⟨_, rfl, a, _, 2, _, rfl, rfl, SqL.of d3.hs, rfl, _, _, rfl, rfl, .inr ⟨by decide, by decide⟩, _, _, rfl, rfl, _, _, rfl, rfl, .inl ⟨_, rfl, _, _, rfl, rfl, ⟨by decide, by decide, ?_⟩, ?_⟩⟩
    · omega
    have e0 : ∀ z : Int, 0 ≤ z % 2147483647 := fun z => Int.emod_nonneg _ (by decide)
    have e1 : ∀ z : Int, z % 2147483647 < 2147483647 := fun z => Int.emod_lt_of_pos _ (by decide)
    refine ⟨_, _, rfl, rfl, big1, ?_⟩
    refine ⟨_, rfl, _, _, rfl, rfl, .inr ⟨by decide, by decide⟩, _, rfl, a, _, 2, _, rfl, rfl, SqL.of d3.hs, rfl, _, _, rfl, rfl, .inr ⟨by decide, by decide⟩, _, _, rfl, rfl, _, _, rfl, rfl, .inl ⟨_, rfl, _, _, rfl, rfl, ⟨by decide, by decide, pw2 _ _ (e0 _) (e1 _) (by omega) (by omega)⟩, _, _, rfl, rfl, big2, ?_⟩⟩
    refine ⟨_, rfl, _, _, rfl, rfl, wide_div (b := 200) big3 (by decide) (by decide) (by decide), _, rfl, _, sz, rfl, rfl, hs0, ?_⟩
    exact k _ _ (Int.emod_nonneg _ (by omega)) (Int.emod_lt_of_pos _ hs0) ⟨b, cs, i + 1, n + 1, d3, Nat.succ_le_succ hn⟩
end

/-! ### what is known beside the state of the cells -/
theorem DSt.new {G H : Hp} {s : Addr} {m : Nat} {p : Addr} {o : HO} (d : DSt G H s m) (hp : H p = none) : DSt (upd G p o) (upd H p o) s m :=
  d.learn (same_upd hp) hp upd_same
/-- a known object changes -/
theorem DSt.put {G H : Hp} {s : Addr} {m : Nat} {p : Addr} {o u : HO} (d : DSt G H s m) (hp : G p = some u) : DSt (upd G p o) (upd H p o) s m := by
  obtain ⟨b, cs, i, n, d, hn⟩ := d
  have n1 : s ≠ p := fun e => by rw [← e, d.fs] at hp; cases hp
  have n2 : b ≠ p := fun e => by rw [← e, d.fb] at hp; cases hp
  refine ⟨b, cs, i, n, ⟨fun a v e => ?_, ?_, ?_, ?_, ?_, d.len⟩, hn⟩
  · by_cases ha : a = p
    · subst ha; rw [upd_same] at e ⊢; exact e
    · rw [upd_ne ha] at e ⊢; exact d.same a v e
  · rw [upd_ne n1]; exact d.fs
  · rw [upd_ne n2]; exact d.fb
  · rw [upd_ne n1]; exact d.hs
  · rw [upd_ne n2]; exact d.hb
/-- all that stands but the state is known from now on -/
theorem DSt.all {G H H' : Hp} {st : Addr} {m : Nat} (d : DSt G H st m) (sm : Same H H') : ∃ G', Same G G' ∧ DSt G' H' st m ∧ (∀ p o, H p = none → H' p = some o → G' p = some o) ∧ ∀ p o, (∀ xs, o ≠ .lst xs) → H' p = some o → G' p = some o := by
  obtain ⟨b, cs, i, n, d, hn⟩ := d
  refine ⟨fun a => if a = st ∨ a = b then none else H' a, fun a o e => ?_, ⟨b, cs, i, n, ⟨fun a o e => ?_, by rw [if_pos (.inl rfl)], by rw [if_pos (.inr rfl)], sm _ _ d.hs, sm _ _ d.hb, d.len⟩, hn⟩, fun p o h e => ?_, fun p o h e => ?_⟩
  · show (if a = st ∨ a = b then none else H' a) = some o
    rw [if_neg]
    · exact sm _ _ (d.same _ _ e)
    · rintro (q | q)
      · rw [q, d.fs] at e; cases e
      · rw [q, d.fb] at e; cases e
  · have e : (if a = st ∨ a = b then none else H' a) = some o := e
    split at e
    · cases e
    · exact e
  · show (if p = st ∨ p = b then none else H' p) = some o
    rw [if_neg]
    · exact e
    · rintro (q | q)
      · rw [q, d.hs] at h; cases h
      · rw [q, d.hb] at h; cases h
  · show (if p = st ∨ p = b then none else H' p) = some o
    rw [if_neg]
    · exact e
    · rintro (q | q)
      · rw [q, sm _ _ d.hs] at e; exact h _ (Option.some.inj e).symm
      · rw [q, sm _ _ d.hb] at e; exact h _ (Option.some.inj e).symm

/-! ### names -/
def lets : Str := "abcdefghijklmnopqrstuvwxyz"
def digs : Str := "0123456789"
def inNm (c : Nat) : Bool := decide (c ∈ lets.cps.toList) || decide (c ∈ digs.cps.toList)
def vnL : List Nat → Bool
  | [] => false
  | c :: r => decide (c ∈ lets.cps.toList) && (c :: r).all inNm
def vn (z : Str) : Bool := decide (1 ≤ z.length ∧ z.length ≤ 6) && vnL z.cps.toList
section
variable {P : Program} {w : World} {K : PySem.W.Frag} {mg : Str → Option Value} {base : Heap}
def spName : Sp := fun vs H Q _ => ∃ z : Str, vs = [.str z] ∧ z.length ≤ 1000 ∧ (∀ c ∈ z.cps.toList, c < 128) ∧ ∀ H', Same H H' → Q (.bl (vn z)) H'
theorem head_of {z : Str} (h : 1 ≤ z.length) : ∃ c r, z.cps.toList = c :: r := by
  cases e : z.cps.toList with
  | nil =>
    have : z.length = z.cps.toList.length := by simp [Str.length]
    rw [e] at this
    rw [this] at h
    exact absurd h (by decide)
  | cons c r => exact ⟨c, r, rfl⟩
theorem len_of (z : Str) : z.length = z.cps.toList.length := by simp [Str.length]
theorem ok_valid (T : Txt K mg) : FnOk P w K mg base CX0 1 T.f_valid_name T.d_valid_name ["text"] spName := by
  refine T.F_valid_name.ok sc_valid_name (fun vs H Q E h => ?_) (fun cdv A outer s H vs Q E hr h => ?_)
  · obtain ⟨z, rfl, _⟩ := h
    rfl
  · obtain ⟨z, rfl, hz, hc, k⟩ := h
    refine ⟨_, (pss_cons (ps_if (pt_not (pt_chain op_le op_le pe_int (pe_callB call_len_str (by rfl) T.n_len (by decide +kernel) (pa_cons (pv 0) pa_nil)) (pe_glob (v := V.int 6) rfl T.c_LONGEST_NAME ⟨_, rfl⟩)))
      (pss_one (ps_ret pe_bl))
      pss_nil)
    (pss_one (ps_ret (pe_and (pe_cmpR op_in_sign (pe_ix ix_str (pv 0) pe_int (fun _ _ => rfl)) (pe_glob (v := V.str "abcdefghijklmnopqrstuvwxyz") rfl T.c_LETTERS ⟨_, rfl⟩) rfl) (pe_one (pe_callB (cr_all rfl) (by rfl) T.n_all (by decide +kernel) (pa_cons (pe_lc (own := [("char", 1)]) (g := gName 1) (tt := tYes) rfl sc_valid_name.nd (pi_str (pv 0)) (blkOk_by (N := ["text", "char"]) (sc := defScope s_valid_name) (by decide +kernel)) (fun _ _ _ _ _ => pg_name (i := 1) sc_valid_name.nd rfl (Or.inl rfl)) (fun _ _ _ _ _ => pts_nil) (fun _ _ _ _ _ => (pe_or (pe_cmpR op_in_sign (pv 1) (pe_glob (v := V.str "abcdefghijklmnopqrstuvwxyz") rfl T.c_LETTERS ⟨_, rfl⟩) rfl) (pe_one (pe_cmpR op_in_sign (pv 1) (pe_glob (v := V.str "0123456789") rfl T.c_DIGITS ⟨_, rfl⟩) rfl))))) pa_nil))))))), ?_⟩
    have hzl : z.length ≤ sizeLine := Nat.le_of_lt (small1000 hz)
    -- the length
    refine ⟨_, rfl, z, rfl, hzl, 1, (z.length : Int), rfl, rfl, _, rfl, ite2 (fun h1 => ?_) fun h1 => ?_⟩
    · have h1' : (1 : Int) ≤ z.length := of_decide_eq_true h1
      refine ⟨_, 6, rfl, rfl, _, rfl, ite2 (fun h2 => ?_) fun h2 => ?_⟩
      · have h2' : ¬ (z.length : Int) ≤ 6 := by simpa using h2
        have e : vn z = false := by
          unfold vn
          rw [decide_eq_false (by omega), Bool.false_and]
        have := k H (Same.refl H)
        rw [e] at this
        exact this
      · have h2' : (z.length : Int) ≤ 6 := by simpa using h2
        obtain ⟨c, r, ez⟩ := head_of (z := z) (by omega)
        have ev : vn z = vnL (c :: r) := by
          unfold vn
          rw [decide_eq_true (by omega), Bool.true_and, ez]
        refine ⟨_, rfl, z, 0, c, rfl, rfl, hzl, by rw [ez]; exact at0, c, lets, rfl, rfl, _, rfl, ite2 (fun hl => ?_) fun hl => ?_⟩
        · refine ⟨_, rfl, z, rfl, fun D hD => ?_⟩
          refine lc_str (fun i H1 => H1 D = some (.lst ((z.cps.toList.take i).map fun c => V.bl (inNm c))) ∧ Same H H1) ⟨upd_same, same_upd hD⟩ ?_ ?_
          · intro i d H1 hi ⟨eD, sm⟩
            have hi2 : i < 1000 := by
              have := (List.getElem?_eq_some_iff.mp hi).1
              rw [← len_of] at this
              omega
            have fin : ∀ b : Bool, b = inNm d → ∃ acc, H1 D = some (.lst acc) ∧ acc.length < sizeLine ∧ (upd H1 D (.lst (acc ++ [V.bl b]))) D = some (.lst ((z.cps.toList.take (i + 1)).map fun c => V.bl (inNm c))) ∧ Same H (upd H1 D (.lst (acc ++ [V.bl b]))) := by
              intro b eb
              refine ⟨_, eD, small1000 (by rw [List.length_map, List.length_take]; omega), ?_, same_mut sm hD⟩
              rw [upd_same, take_more hi, List.map_append, eb]
              rfl
            refine ⟨rfl, _, rfl, d, lets, rfl, rfl, _, rfl, ite2 (fun h => ?_) fun h => ?_⟩
            · exact fin true (by unfold inNm; rw [h, Bool.true_or])
            · exact ⟨_, rfl, d, digs, rfl, rfl, fin _ (by unfold inNm; rw [Bool.eq_false_iff.mpr h, Bool.false_or])⟩
          · intro H1 ⟨eD, sm⟩
            have et : z.cps.toList.take z.cps.size = z.cps.toList := List.take_of_length_le (by simp)
            rw [et] at eD
            refine ⟨D, z.cps.toList.map inNm, rfl, SqL.of (by rw [eD, List.map_map]; rfl), ?_⟩
            have e2 : vn z = ((z.cps.toList.map inNm).all id) := by
              rw [ev, ez]
              show (decide (c ∈ lets.cps.toList) && (c :: r).all inNm) = _
              rw [hl, Bool.true_and, List.all_map]
              rfl
            rw [← e2]
            exact k H1 sm
        · have e : vn z = false := by
            rw [ev]
            show (decide (c ∈ lets.cps.toList) && (c :: r).all inNm) = false
            rw [Bool.eq_false_iff.mpr hl, Bool.false_and]
          have := k H (Same.refl H)
          rw [e] at this
          exact this
    · have h1' : ¬ (1 : Int) ≤ z.length := fun q => h1 (decide_eq_true q)
      refine ⟨_, rfl, iteT ?_⟩
      have e : vn z = false := by
        unfold vn
        rw [decide_eq_false (by omega), Bool.false_and]
      have := k H (Same.refl H)
      rw [e] at this
      exact this
theorem vn_eq {z : Str} {c : Nat} {r : List Nat} (h : 1 ≤ z.length ∧ z.length ≤ 6) (ez : z.cps.toList = c :: r) (hl : decide (c ∈ lets.cps.toList) = true) : vn z = (c :: r).all inNm := by
  unfold vn
  rw [decide_eq_true h, Bool.true_and, ez]
  show (decide (c ∈ lets.cps.toList) && (c :: r).all inNm) = _
  rw [hl, Bool.true_and]
theorem vn_no {z : Str} {c : Nat} {r : List Nat} (ez : z.cps.toList = c :: r) (hl : ¬ decide (c ∈ lets.cps.toList) = true) : vn z = false := by
  unfold vn
  rw [ez]
  show (_ && (decide (c ∈ lets.cps.toList) && (c :: r).all inNm)) = false
  rw [Bool.eq_false_iff.mpr hl, Bool.false_and, Bool.and_false]
theorem vn_len {z : Str} (h : ¬ (1 ≤ z.length ∧ z.length ≤ 6)) : vn z = false := by
  unfold vn
  rw [decide_eq_false h, Bool.false_and]
end

/-! ### the errors' own constructors -/
section
variable {P : Program} {w : World} {K : PySem.W.Frag} {mg : Str → Option Value} {base : Heap}
def spErr (nm : Str) (C : Addr) : Sp := fun vs H Q _ => ∃ (a : Addr) (v : V), vs = [.ref a, v] ∧ H a = some (exo a C none) ∧ ∀ dx H', H dx = none → dx ≠ a → H' = upd (upd H dx (exd dx [(nm, v)])) a (exo a C (some dx)) → Q .non H'
theorem ok_eBadName (T : Txt K mg) : FnOk P w K mg base CX0 1 T.f_BadName_init T.d_BadName_init ["self", "name"] (spErr "name" T.f_BadName) := by
  refine T.F_BadName_init.ok sc_BadName_init (fun vs H Q E h => ?_) (fun cdv A outer s H vs Q E hr h => ?_)
  · obtain ⟨a, v, rfl, _⟩ := h
    rfl
  · obtain ⟨a, v, rfl, ha, k⟩ := h
    refine ⟨_, (pss_one (ps_ost (pv 0) (pv 1))), ?_⟩
    exact ⟨_, rfl, _, rfl, a, T.f_BadName, rfl, T.ox_BadName, T.no_BadName_name, .inl ⟨ha, fun dx nd ne => k dx _ nd ne rfl⟩⟩
theorem ok_eDuplicateName (T : Txt K mg) : FnOk P w K mg base CX0 1 T.f_DuplicateName_init T.d_DuplicateName_init ["self", "name"] (spErr "name" T.f_DuplicateName) := by
  refine T.F_DuplicateName_init.ok sc_DuplicateName_init (fun vs H Q E h => ?_) (fun cdv A outer s H vs Q E hr h => ?_)
  · obtain ⟨a, v, rfl, _⟩ := h
    rfl
  · obtain ⟨a, v, rfl, ha, k⟩ := h
    refine ⟨_, (pss_one (ps_ost (pv 0) (pv 1))), ?_⟩
    exact ⟨_, rfl, _, rfl, a, T.f_DuplicateName, rfl, T.ox_DuplicateName, T.no_DuplicateName_name, .inl ⟨ha, fun dx nd ne => k dx _ nd ne rfl⟩⟩
theorem ok_eUnknownName (T : Txt K mg) : FnOk P w K mg base CX0 1 T.f_UnknownName_init T.d_UnknownName_init ["self", "name"] (spErr "name" T.f_UnknownName) := by
  refine T.F_UnknownName_init.ok sc_UnknownName_init (fun vs H Q E h => ?_) (fun cdv A outer s H vs Q E hr h => ?_)
  · obtain ⟨a, v, rfl, _⟩ := h
    rfl
  · obtain ⟨a, v, rfl, ha, k⟩ := h
    refine ⟨_, (pss_one (ps_ost (pv 0) (pv 1))), ?_⟩
    exact ⟨_, rfl, _, rfl, a, T.f_UnknownName, rfl, T.ox_UnknownName, T.no_UnknownName_name, .inl ⟨ha, fun dx nd ne => k dx _ nd ne rfl⟩⟩
theorem ok_eBadCount (T : Txt K mg) : FnOk P w K mg base CX0 1 T.f_BadCount_init T.d_BadCount_init ["self", "count"] (spErr "count" T.f_BadCount) := by
  refine T.F_BadCount_init.ok sc_BadCount_init (fun vs H Q E h => ?_) (fun cdv A outer s H vs Q E hr h => ?_)
  · obtain ⟨a, v, rfl, _⟩ := h
    rfl
  · obtain ⟨a, v, rfl, ha, k⟩ := h
    refine ⟨_, (pss_one (ps_ost (pv 0) (pv 1))), ?_⟩
    exact ⟨_, rfl, _, rfl, a, T.f_BadCount, rfl, T.ox_BadCount, T.no_BadCount_count, .inl ⟨ha, fun dx nd ne => k dx _ nd ne rfl⟩⟩
/-- an exception's own dict, new -/
def Raised (H : Hp) (nm : Str) (v : V) (D : Addr) (E : XK) : Prop := ∀ d H', H d = none → Same H H' → H' d = some (.xd [(nm, v)]) → E (.ref D) (some d) H'
theorem Raised.on {H H2 : Hp} {nm : Str} {v : V} {D : Addr} {E : XK} (r : Raised H nm v D E) (s : Same H H2) : Raised H2 nm v D E := fun d H' nd sm e => r d H' (s.free nd) (s.trans sm) e
/-- what a raise asks -/
theorem raise_asks {H : Hp} {nm : Str} {v : V} {D a : Addr} {E : XK} (na : H a = none) (k : Raised H nm v D E) (d : Addr) (H' : Hp) (nd : (upd H a (exo a D none)) d = none) (ne : d ≠ a) (e : H' = upd (upd (upd H a (exo a D none)) d (exd d [(nm, v)])) a (exo a D (some d))) :
    H' a = some (exo a D (some d)) ∧ H' d = some (exd d [(nm, v)]) ∧ H d = none ∧ E (.ref D) (some d) (upd (del H' a) d (.xd [(nm, v)])) := by
  have nd' : H d = none := by rw [upd_ne ne] at nd; exact nd
  refine ⟨by rw [e]; exact upd_same, by rw [e, upd_ne ne]; exact upd_same, nd', k d _ nd' (fun b o hb => ?_) upd_same⟩
  have n1 : b ≠ d := ne_of_none hb nd'
  have n2 : b ≠ a := ne_of_none hb na
  rw [upd_ne n1, del_ne n2, e, upd_ne n2, upd_ne n1, upd_ne n2]
  exact hb
/-- of the raising reading the calm one -/
theorem calm_of {k : Nat} {f : Addr} {fd : FuncData} {ps : List Str} {sp : Sp} (F : FnOk P w K mg base (L2.CX P w) k f fd ps sp) : FnOk P w K mg base CX0 k f fd ps (fun vs H Q _ => sp vs H Q E0) := by
  refine ⟨fun vs H Q E q => F.len vs H Q E0 q, fun A outer s H args us vs Q E hr he hb hv hs => codeAny_mono (F.run A outer s H args us vs Q E0 hr he hb hv hs) fun r s' q => ?_⟩
  cases r with
  | ok fl => cases fl <;> exact q
  | error e =>
    obtain ⟨_, _, _, _, _, _, _, _, _, _, _, _, z⟩ := q
    exact z.elim
end

/-! ### the errors of networks -/
section
variable {P : Program} {w : World} {K : PySem.W.Frag} {mg : Str → Option Value} {base : Heap}
theorem ok_eHasRound (T : Txt K mg) : FnOk P w K mg base CX0 1 T.f_HasRound_init T.d_HasRound_init ["self", "name"] (spErr "name" T.f_HasRound) := by
  refine T.F_HasRound_init.ok sc_HasRound_init (fun vs H Q E h => ?_) (fun cdv A outer s H vs Q E hr h => ?_)
  · obtain ⟨a, v, rfl, _⟩ := h
    rfl
  · obtain ⟨a, v, rfl, ha, k⟩ := h
    refine ⟨_, (pss_one (ps_ost (pv 0) (pv 1))), ?_⟩
    exact ⟨_, rfl, _, rfl, a, T.f_HasRound, rfl, T.ox_HasRound, T.no_HasRound_name, .inl ⟨ha, fun dx nd ne => k dx _ nd ne rfl⟩⟩
theorem ok_eUselessLink (T : Txt K mg) : FnOk P w K mg base CX0 1 T.f_UselessLink_init T.d_UselessLink_init ["self", "name"] (spErr "name" T.f_UselessLink) := by
  refine T.F_UselessLink_init.ok sc_UselessLink_init (fun vs H Q E h => ?_) (fun cdv A outer s H vs Q E hr h => ?_)
  · obtain ⟨a, v, rfl, _⟩ := h
    rfl
  · obtain ⟨a, v, rfl, ha, k⟩ := h
    refine ⟨_, (pss_one (ps_ost (pv 0) (pv 1))), ?_⟩
    exact ⟨_, rfl, _, rfl, a, T.f_UselessLink, rfl, T.ox_UselessLink, T.no_UselessLink_name, .inl ⟨ha, fun dx nd ne => k dx _ nd ne rfl⟩⟩
end

/-! ### links in a dict -/
/-- a link: its name, its ends -/
abbrev Ent := Str × Str × Str
section
variable {P : Program} {w : World} {K : PySem.W.Frag} {mg : Str → Option Value} {base : Heap}
/-- an entry of a dict: the name, the tuple of both ends -/
def EntOk (H : Hp) (q : Key × V) (e : Ent) : Prop := q.1 = .inr e.1 ∧ ∃ p, q.2 = .ref p ∧ H p = some (.tup [.str e.2.1, .str e.2.2])
theorem EntOk.on {H H' : Hp} {q : Key × V} {e : Ent} (r : EntOk H q e) (s : ∀ c o, H c = some (.tup o) → H' c = some (.tup o)) : EntOk H' q e := let ⟨h1, p, h2, h3⟩ := r; ⟨h1, p, h2, s _ _ h3⟩
/-- the links as a dict -/
def DictAt (H : Hp) (d : Addr) (es : List Ent) : Prop := ∃ kvs, H d = some (.dK kvs) ∧ Paired (EntOk H) kvs es
def names (es : List Ent) : List Str := es.map (·.1)
/-- fine links: names that differ, at most ten -/
structure FineE (es : List Ent) : Prop where
  nd : (names es).Nodup
  few : es.length ≤ 10
theorem paired_on {α β : Type} {F G : α → β → Prop} (h : ∀ a b, F a b → G a b) : ∀ {xs : List α} {ys : List β}, Paired F xs ys → Paired G xs ys
  | _, _, .nil => .nil
  | _, _, .cons a r => .cons (h _ _ a) (paired_on h r)
theorem DictAt.on {H H' : Hp} {d : Addr} {es : List Ent} (r : DictAt H d es) (s : ∀ c o, H c = some (.tup o) → H' c = some (.tup o)) (hd : ∀ kvs, H d = some (.dK kvs) → H' d = some (.dK kvs)) : DictAt H' d es :=
  let ⟨kvs, h1, h2⟩ := r; ⟨kvs, hd _ h1, paired_on (fun _ _ e => e.on s) h2⟩
theorem DictAt.same {H H' : Hp} {d : Addr} {es : List Ent} (r : DictAt H d es) (s : Same H H') : DictAt H' d es := r.on (fun c o e => s c _ e) fun _ e => s _ _ e
/-- what a dict tells of a name -/
def found (es : List Ent) (n : Str) : Option (Str × Str) := (es.find? fun e => decide (e.1 = n)).map (·.2)
theorem val_found {H : Hp} {n : Str} : ∀ {kvs : List (Key × V)} {es : List Ent}, Paired (EntOk H) kvs es →
    (found es n = none ∧ valV kvs (.inr n : Key) = none) ∨ ∃ e p, found es n = some e ∧ valV kvs (.inr n : Key) = some (.ref p) ∧ H p = some (.tup [.str e.1, .str e.2])
  | _, _, .nil => .inl ⟨rfl, rfl⟩
  | (k, v) :: kvs, e :: es, .cons a r => by
    obtain ⟨h1, p, h2, h3⟩ := a
    have h1 : k = .inr e.1 := h1
    have h2 : v = .ref p := h2
    subst h1 h2
    by_cases q : e.1 = n
    · right
      refine ⟨e.2, p, ?_, valV_pos (by rw [q]), h3⟩
      unfold found
      rw [List.find?_cons_of_pos (by simp [q])]
      rfl
    · have f : found (e :: es) n = found es n := by
        unfold found
        rw [List.find?_cons_of_neg (by simp [q])]
      have g : valV ((.inr e.1, V.ref p) :: kvs) (.inr n : Key) = valV kvs (.inr n) := valV_neg (fun z => q (Sum.inr.inj z))
      rw [f, g]
      exact val_found r
theorem found_some {es : List Ent} {n : Str} : (found es n).isSome = decide (n ∈ names es) := by
  unfold found names
  induction es with
  | nil => rfl
  | cons e r ih =>
    by_cases q : e.1 = n
    · rw [List.find?_cons_of_pos (by simp [q])]
      simp [q]
    · rw [List.find?_cons_of_neg (by simp [q]), ih]
      have : ¬ n = e.1 := fun z => q z.symm
      simp [this]
theorem keys_of {H : Hp} : ∀ {kvs : List (Key × V)} {es : List Ent}, Paired (EntOk H) kvs es → (kvs.map fun kv => kV kv.1) = (names es).map V.str
  | _, _, .nil => rfl
  | (k, v) :: kvs, e :: es, .cons a r => by
    have h1 : k = .inr e.1 := a.1
    subst h1
    show kV (.inr e.1) :: (kvs.map fun kv => kV kv.1) = _
    rw [keys_of r]
    rfl
theorem inV_names (n : Str) (zs : List Str) : inV (.str n) (zs.map V.str) = decide (n ∈ zs) := by
  unfold inV
  induction zs with
  | nil => rfl
  | cons z r ih =>
    rw [List.map_cons, List.any_cons, ih]
    by_cases h : n = z
    · subst h; simp [eqV]
    · have h2 : ¬ z = n := fun q => h q.symm
      simp [eqV, h, h2]
theorem flat_names (zs : List Str) : (zs.map V.str).all flatV = true := by
  rw [List.all_map]
  exact List.all_eq_true.mpr fun _ _ => rfl
theorem names_take {es : List Ent} {i : Nat} {e : Ent} (h : es[i]? = some e) : names (es.take (i + 1)) = names (es.take i) ++ [e.1] := by
  rw [take_more h]
  unfold names
  rw [List.map_append]
  rfl
theorem pair_at {α β : Type} {F : α → β → Prop} : ∀ {xs : List α} {ys : List β}, Paired F xs ys → ∀ {i : Nat} {x : α}, xs[i]? = some x → ∃ y, ys[i]? = some y ∧ F x y
  | _, _, .nil, i, x, h => by simp at h
  | _, _, .cons a r, 0, x, h => ⟨_, rfl, by rw [← Option.some.inj h]; exact a⟩
  | _, _, .cons a r, i + 1, x, h => pair_at r (i := i) h
theorem paired_snoc {α β : Type} {F : α → β → Prop} {a : α} {b : β} (h : F a b) : ∀ {xs : List α} {ys : List β}, Paired F xs ys → Paired F (xs ++ [a]) (ys ++ [b])
  | _, _, .nil => .cons h .nil
  | _, _, .cons a r => .cons a (paired_snoc h r)
/-- a word of few signs, all plain -/
def Wn (z : Str) : Prop := z.length ≤ 1000 ∧ ∀ c ∈ z.cps.toList, c < 128
/-- the first of some words that is no name -/
def bad (zs : List Str) : Option Str := zs.find? fun z => !vn z
def stored (es : List Ent) (n : Str) (e : Str × Str) : List Ent := if n ∈ names es then es.map (fun q => if q.1 = n then (q.1, e) else q) else es ++ [(n, e)]
theorem stored_ok {H : Hp} {kvs : List (Key × V)} {es : List Ent} {n : Str} {e : Str × Str} {q : Addr} (h : Paired (EntOk H) kvs es) (hq : H q = some (.tup [.str e.1, .str e.2])) : Paired (EntOk H) (putK kvs (.inr n : Key) (.ref q)) (stored es n e) := by
  have hany : (kvs.any fun kv => decide (kv.1 = (.inr n : Key))) = decide (n ∈ names es) := by
    rw [valV_any, ← found_some]
    rcases val_found (n := n) h with ⟨e1, e2⟩ | ⟨e, p, e1, e2, _⟩ <;> rw [e1, e2] <;> rfl
  unfold putK stored
  by_cases hn : n ∈ names es
  · rw [hany, decide_eq_true hn, if_pos rfl, if_pos hn]
    clear hany hn
    induction h with
    | nil => exact .nil
    | @cons a b as bs r rr ih =>
      refine .cons ?_ ih
      obtain ⟨h1, p, h2, h3⟩ := r
      show EntOk H (if a.1 = (.inr n : Key) then (a.1, V.ref q) else a) (if b.1 = n then (b.1, e) else b)
      by_cases hb : b.1 = n
      · rw [if_pos (by rw [h1, hb]), if_pos hb]
        exact ⟨by show a.1 = _; exact h1, q, rfl, hq⟩
      · rw [if_neg (fun z => hb (Sum.inr.inj (h1.symm.trans z))), if_neg hb]
        exact ⟨h1, p, h2, h3⟩
  · rw [hany, decide_eq_false hn, if_neg Bool.false_ne_true, if_neg hn]
    exact paired_snoc ⟨rfl, q, rfl, hq⟩ h
theorem bad_at : ∀ {zs : List Str} {i : Nat} {z : Str}, (∀ q ∈ zs.take i, vn q = true) → zs[i]? = some z → ¬ vn z = true → bad zs = some z
  | [], i, z, _, h, _ => by simp at h
  | q :: r, 0, z, _, h, hv => by
    have e : q = z := Option.some.inj h
    subst e
    unfold bad
    rw [List.find?_cons_of_pos (by simpa using hv)]
  | q :: r, i + 1, z, ha, h, hv => by
    have ih := bad_at (zs := r) (i := i) (z := z) (fun q' hq => ha q' (List.mem_cons_of_mem _ hq)) h hv
    unfold bad at ih ⊢
    rw [List.find?_cons_of_neg (by rw [ha q List.mem_cons_self]; decide)]
    exact ih
end

/-! ### what links lead to -/
/-- q is reached from p by one or more links -/
inductive Lead (es : List Ent) : Str → Str → Prop
  | one {e : Ent} : e ∈ es → Lead es e.2.1 e.2.2
  | more {p : Str} {e : Ent} : Lead es p e.2.1 → e ∈ es → Lead es p e.2.2
theorem Lead.step {es : List Ent} {p : Str} {e : Ent} (h : p = e.2.1 ∨ Lead es p e.2.1) (he : e ∈ es) : Lead es p e.2.2 := by
  rcases h with rfl | h
  · exact .one he
  · exact .more h he
theorem Lead.trans {es : List Ent} {p q r : Str} (h : Lead es p q) (h2 : Lead es q r) : Lead es p r := by
  induction h2 with
  | one he => exact .more h he
  | more _ he ih => exact .more (ih h) he
theorem Lead.mono {es fs : List Ent} {p q : Str} (h : Lead es p q) (s : ∀ e ∈ es, e ∈ fs) : Lead fs p q := by
  induction h with
  | one he => exact .one (s _ he)
  | more _ he ih => exact .more ih (s _ he)
theorem Lead.last {es : List Ent} {p q : Str} (h : Lead es p q) : ∃ e ∈ es, e.2.2 = q := by
  cases h with
  | one he => exact ⟨_, he, rfl⟩
  | more _ he => exact ⟨_, he, rfl⟩
theorem Lead.first {es : List Ent} {p q : Str} (h : Lead es p q) : ∃ e ∈ es, e.2.1 = p := by
  induction h with
  | one he => exact ⟨_, he, rfl⟩
  | more _ _ ih => exact ih
theorem Lead.cons {es : List Ent} {p q : Str} (h : Lead es p q) : ∃ e ∈ es, e.2.1 = p ∧ (e.2.2 = q ∨ Lead es e.2.2 q) := by
  induction h with
  | one he => exact ⟨_, he, rfl, .inl rfl⟩
  | more _ he ih =>
    obtain ⟨e, h1, h2, h3⟩ := ih
    exact ⟨e, h1, h2, .inr (h3.elim (fun z => z ▸ .one he) fun z => .more z he)⟩
/-- while what lies behind p is sought: found, waiting -/
structure Seek (es : List Ent) (p : Str) (F W : List Str) : Prop where
  sound : ∀ q ∈ F, Lead es p q
  wait : ∀ q ∈ W, q = p ∨ q ∈ F
  nd : F.Nodup
  clo : ∀ q, q = p ∨ q ∈ F → q ∈ W ∨ ∀ e ∈ es, e.2.1 = q → e.2.2 ∈ F
theorem Seek.start (es : List Ent) (p : Str) : Seek es p [] [p] where
  sound := fun q h => by cases h
  wait := fun q h => .inl (List.mem_singleton.mp h)
  nd := List.nodup_nil
  clo := fun q h => by
    rcases h with h | h
    · exact .inl (List.mem_singleton.mpr h)
    · cases h
theorem Seek.done {es : List Ent} {p : Str} {F : List Str} (s : Seek es p F []) (q : Str) : q ∈ F ↔ Lead es p q := by
  refine ⟨s.sound q, fun h => ?_⟩
  have cl : ∀ q, q = p ∨ q ∈ F → ∀ e ∈ es, e.2.1 = q → e.2.2 ∈ F := fun q h => (s.clo q h).elim (fun z => by cases z) id
  induction h with
  | one he => exact cl _ (.inl rfl) _ he rfl
  | more _ he ih => exact cl _ (.inr (ih ⟨s.sound, s.wait, s.nd, s.clo⟩ cl)) _ he rfl
/-- while the links of one place are walked -/
structure SeekAt (es : List Ent) (p c : Str) (i : Nat) (F W : List Str) : Prop where
  sound : ∀ q ∈ F, Lead es p q
  wait : ∀ q ∈ W, q = p ∨ q ∈ F
  nd : F.Nodup
  at_ : p = c ∨ Lead es p c
  here : ∀ e ∈ es.take i, e.2.1 = c → e.2.2 ∈ F
  clo : ∀ q, q = p ∨ q ∈ F → q ∈ W ∨ q = c ∨ ∀ e ∈ es, e.2.1 = q → e.2.2 ∈ F
theorem Seek.pop {es : List Ent} {p c : Str} {F W : List Str} (s : Seek es p F (W ++ [c])) : SeekAt es p c 0 F W where
  sound := s.sound
  wait := fun q h => s.wait q (List.mem_append_left _ h)
  nd := s.nd
  at_ := by
    rcases s.wait c (List.mem_append_right _ (List.mem_singleton.mpr rfl)) with h | h
    · exact .inl h.symm
    · exact .inr (s.sound c h)
  here := fun e h => by simp at h
  clo := fun q h => by
    rcases s.clo q h with h | h
    · rcases List.mem_append.mp h with h | h
      · exact .inl h
      · exact .inr (.inl (List.mem_singleton.mp h))
    · exact .inr (.inr h)
theorem SeekAt.skip {es : List Ent} {p c : Str} {i : Nat} {e : Ent} {F W : List Str} (s : SeekAt es p c i F W) (he : es[i]? = some e) (h : e.2.1 = c → e.2.2 ∈ F) : SeekAt es p c (i + 1) F W :=
  ⟨s.sound, s.wait, s.nd, s.at_, fun f hf hc => by
    rw [take_more he] at hf
    rcases List.mem_append.mp hf with hf | hf
    · exact s.here f hf hc
    · rw [List.mem_singleton.mp hf] at hc ⊢
      exact h hc, s.clo⟩
theorem SeekAt.add {es : List Ent} {p c : Str} {i : Nat} {e : Ent} {F W : List Str} (s : SeekAt es p c i F W) (he : es[i]? = some e) (h : e.2.1 = c) (hn : e.2.2 ∉ F) : SeekAt es p c (i + 1) (F ++ [e.2.2]) (W ++ [e.2.2]) where
  sound := fun q hq => by
    rcases List.mem_append.mp hq with hq | hq
    · exact s.sound q hq
    · rw [List.mem_singleton.mp hq]
      exact Lead.step (h ▸ s.at_) (List.mem_of_getElem? he)
  wait := fun q hq => by
    rcases List.mem_append.mp hq with hq | hq
    · exact (s.wait q hq).imp id fun z => List.mem_append_left _ z
    · exact .inr (List.mem_append_right _ hq)
  nd := List.nodup_append.mpr ⟨s.nd, (by simp), fun a ha b hb => by rw [List.mem_singleton.mp hb]; exact fun z => hn (z ▸ ha)⟩
  at_ := s.at_
  here := fun f hf hc => by
    rw [take_more he] at hf
    rcases List.mem_append.mp hf with hf | hf
    · exact List.mem_append_left _ (s.here f hf hc)
    · rw [List.mem_singleton.mp hf]
      exact List.mem_append_right _ (List.mem_singleton.mpr rfl)
  clo := fun q hq => by
    have up : ∀ z : Str, z ∈ F → z ∈ F ++ [e.2.2] := fun z => List.mem_append_left _
    have old : q = p ∨ q ∈ F → q ∈ W ++ [e.2.2] ∨ q = c ∨ ∀ f ∈ es, f.2.1 = q → f.2.2 ∈ F ++ [e.2.2] := fun h => by
      rcases s.clo q h with h | h | h
      · exact .inl (List.mem_append_left _ h)
      · exact .inr (.inl h)
      · exact .inr (.inr fun f hf e => up _ (h f hf e))
    rcases hq with hq | hq
    · exact old (.inl hq)
    · rcases List.mem_append.mp hq with hq | hq
      · exact old (.inr hq)
      · exact .inl (List.mem_append_right _ hq)
theorem SeekAt.back {es : List Ent} {p c : Str} {F W : List Str} (s : SeekAt es p c es.length F W) : Seek es p F W := ⟨s.sound, s.wait, s.nd, fun q h => by
  rcases s.clo q h with h | h | h
  · exact .inl h
  · exact .inr fun e he hc => s.here e (by rw [List.take_length]; exact he) (hc.trans h)
  · exact .inr h⟩
theorem nd_len {α : Type} [DecidableEq α] : ∀ {l m : List α}, l.Nodup → (∀ x ∈ l, x ∈ m) → l.length ≤ m.length
  | [], _, _, _ => Nat.zero_le _
  | x :: l, m, nd, s => by
    have hx := s x List.mem_cons_self
    have hl : ∀ y ∈ l, y ∈ m.erase x := fun y hy => by
      have ne : y ≠ x := fun z => (List.nodup_cons.mp nd).1 (z ▸ hy)
      exact (List.mem_erase_of_ne ne).mpr (s y (List.mem_cons_of_mem _ hy))
    have ih := nd_len (List.nodup_cons.mp nd).2 hl
    have e := List.length_erase_of_mem hx
    have pos : 0 < m.length := List.length_pos_of_mem hx
    rw [List.length_cons]
    omega
theorem found_few {es : List Ent} {p : Str} {F : List Str} (nd : F.Nodup) (s : ∀ q ∈ F, Lead es p q) : F.length ≤ es.length := by
  rw [← List.length_map (f := fun e : Ent => e.2.2) (as := es)]
  refine nd_len nd fun q hq => ?_
  obtain ⟨e, he, rfl⟩ := (s q hq).last
  exact List.mem_map.mpr ⟨e, he, rfl⟩

/-! ### the places behind one -/
/-- the links as a dict that may be locked -/
def DictRd (H : Hp) (d : Addr) (es : List Ent) : Prop := ∃ kvs, Rd H d (.dK kvs) ∧ Paired (EntOk H) kvs es
section
variable {P : Program} {w : World} {K : PySem.W.Frag} {mg : Str → Option Value} {base : Heap}
theorem DictAt.rd {H : Hp} {d : Addr} {es : List Ent} (h : DictAt H d es) : DictRd H d es := let ⟨kvs, a, b⟩ := h; ⟨kvs, .inl a, b⟩
theorem Rd.on {H H' : Hp} {d : Addr} {u : HO} (h : Rd H d u) (s : Same H H') : Rd H' d u := h.elim (fun z => .inl (s _ _ z)) fun ⟨o, z⟩ => .inr ⟨o, s _ _ z⟩
theorem DictRd.same {H H' : Hp} {d : Addr} {es : List Ent} (h : DictRd H d es) (s : Same H H') : DictRd H' d es := let ⟨kvs, a, b⟩ := h; ⟨kvs, Rd.on a s, paired_on (fun _ _ e => e.on fun c o => s c _) b⟩
/-- two lists beside what was -/
structure Two2 (H Hc : Hp) (f wt : Addr) (F W : List Str) : Prop where
  same : Same H Hc
  nf : H f = none
  nw : H wt = none
  ne : f ≠ wt
  hf : Hc f = some (.lst (F.map V.str))
  hw : Hc wt = some (.lst (W.map V.str))
theorem Two2.setW {H Hc : Hp} {f wt : Addr} {F W : List Str} (t : Two2 H Hc f wt F W) (W' : List Str) : Two2 H (upd Hc wt (.lst (W'.map V.str))) f wt F W' :=
  ⟨same_mut t.same t.nw, t.nf, t.nw, t.ne, by rw [upd_ne t.ne]; exact t.hf, upd_same⟩
theorem Two2.setF {H Hc : Hp} {f wt : Addr} {F W : List Str} (t : Two2 H Hc f wt F W) (F' : List Str) : Two2 H (upd Hc f (.lst (F'.map V.str))) f wt F' W :=
  ⟨same_mut t.same t.nf, t.nf, t.nw, t.ne, upd_same, by rw [upd_ne t.ne.symm]; exact t.hw⟩
def spBehind : Sp := fun vs H Q _ => ∃ (d : Addr) (es : List Ent) (p : Str), vs = [.ref d, .str p] ∧ DictRd H d es ∧ es.length ≤ 100 ∧ ∀ (l : Addr) (F : List Str) (H' : Hp), H l = none → Same H H' → H' l = some (.lst (F.map V.str)) → F.Nodup → (∀ q, q ∈ F ↔ Lead es p q) → Q (.ref l) H'
theorem ok_behind (T : Txt K mg) : FnOk P w K mg base CX0 1 T.f_places_behind T.d_places_behind ["table", "first"] spBehind := by
  refine T.F_places_behind.ok sc_places_behind (fun vs H Q E h => ?_) (fun cdv A outer s H vs Q E hr h => ?_)
  · obtain ⟨d, es, p, rfl, _⟩ := h
    rfl
  · obtain ⟨d, es, p, rfl, ⟨kvs, hd, hp⟩, hfew, k⟩ := h
    refine ⟨_, (pss_cons (ps_set (i := 2) sc_places_behind.nd rfl (Or.inl rfl) (pe_lst pa_nil))
    (pss_cons (ps_set (i := 3) sc_places_behind.nd rfl (Or.inl rfl) (pe_lst (pa_cons (pv 1) pa_nil)))
    (C8.pss_cut (ps_while PassesOwn.never (pt_cmpR op_gt (pe_callB call_len_seq (by rfl) T.n_len (by decide +kernel) (pa_cons (pv 3) pa_nil)) pe_int (nomark _))
      (pss_cons (ps_set (i := 4) sc_places_behind.nd rfl (Or.inl rfl) (pe_bm0 PySem.F.plainAttrs_list PySem.F.slot_list_pop PySem.F.type_list_pop mt_pop (pv 3)))
    (pss_one (ps_may (ps_for PassesOwn.never rfl (pi_values (pv 0)) (pg_tup rfl (pgs_cons (pg_name (i := 5) sc_places_behind.nd rfl (Or.inl rfl)) (pgs_cons (pg_name (i := 6) sc_places_behind.nd rfl (Or.inl rfl)) pgs_nil)))
      (pss_one (ps_if (PW.pt (pw_and (pt_cmpR op_eq (pv 5) (pv 4) (nomark _)) (pw_and1 (pt_cmpR op_notIn_seq (pv 6) (pv 2) (by with_unfolding_all rfl)))))
      (pss_cons (ps_expr (pe_bm PySem.F.plainAttrs_list PySem.F.slot_list_append PySem.F.type_list_append mt_append (pv 2) (pa_cons (pv 6) pa_nil)))
    (pss_one (ps_expr (pe_bm PySem.F.plainAttrs_list PySem.F.slot_list_append PySem.F.type_list_append mt_append (pv 3) (pa_cons (pv 6) pa_nil)))))
      pss_nil)))))))
    (pss_one (ps_ret (pv 2)))))), ?_⟩
    refine ⟨by show 0 ≤ sizeLine; decide, fun f nf => ?_⟩
    refine ⟨_, rfl, by show 1 ≤ sizeLine; decide, fun wt nw => ?_⟩
    refine ⟨fun σ Hc => ∃ F x4 x5 x6, σ = [some (.ref d), some (.str p), some (.ref f), some (.ref wt), x4, x5, x6] ∧ Seek es p F [] ∧ Two2 H Hc f wt F [], ?_, ?_⟩
    · refine ⟨fun m σ Hc => ∃ F W x4 x5 x6, σ = [some (.ref d), some (.str p), some (.ref f), some (.ref wt), x4, x5, x6] ∧ Seek es p F W ∧ Two2 H Hc f wt F W ∧ W.length + (es.length - F.length) ≤ 101 ∧ m = W.length + (es.length - F.length), ⟨_, [], [p], none, none, none, rfl, Seek.start es p, ?_, by show 1 + es.length ≤ 101; omega, rfl⟩, ?_⟩
      · have n1 : H wt = none := by
          by_cases e : wt = f
          · rw [e]; exact nf
          · rw [upd_ne e] at nw; exact nw
        have ne : f ≠ wt := fun e => by rw [← e, upd_same] at nw; cases nw
        exact ⟨(same_upd nf).trans (same_upd nw), nf, n1, ne, by rw [upd_ne ne]; exact upd_same, upd_same⟩
      rintro m σ Hc ⟨F, W, x4, x5, x6, rfl, sk, tw, hm1, rfl⟩
      have hcount : ∀ G : List Str, (G.map V.str).length = G.length := fun G => List.length_map _
      refine ⟨_, rfl, wt, _, rfl, .inl (SqL.of tw.hw), _, 0, rfl, rfl, _, rfl, ite2 (fun hpos => ?_) fun hpos => ?_⟩
      · obtain ⟨W', c, rfl⟩ : ∃ W' c, W = W' ++ [c] := by
          rcases List.eq_nil_or_concat W with rfl | ⟨W', c, rfl⟩
          · revert hpos; simp
          · exact ⟨W', c, by rw [List.concat_eq_append]⟩
        have hfF := found_few sk.nd sk.sound
        refine ⟨fun σ H' => ∃ F2 W2 x4 x5 x6, σ = [some (.ref d), some (.str p), some (.ref f), some (.ref wt), x4, x5, x6] ∧ Seek es p F2 W2 ∧ Two2 H H' f wt F2 W2 ∧ W2.length + (es.length - F2.length) < (W' ++ [c]).length + (es.length - F.length), fun σ' H' ⟨F2, W2, y4, y5, y6, e, s2, t2, lt⟩ => ⟨_, lt, F2, W2, y4, y5, y6, e, s2, t2, Nat.le_trans (Nat.le_of_lt lt) hm1, rfl⟩, ?_⟩
        refine ⟨_, rfl, .inl ⟨rfl, _, SqL.of tw.hw⟩, wt, _, .str c, rfl, rfl, tw.hw, by simp, ?_⟩
        have ew : (((W' ++ [c]).map V.str).dropLast) = W'.map V.str := by rw [List.map_append]; exact List.dropLast_concat
        have t1 := tw.setW W'
        rw [← ew] at t1
        rw [ew] at t1 ⊢
        generalize upd Hc wt (.lst (W'.map V.str)) = H1 at t1
        refine may_ask (kvs := kvs) (Rd.on hd t1.same) fun od Hl bk hl o1 b1 b2 => ?_
        have dne : ∀ {a : Addr}, H a = none → a ≠ d := fun {a} ha e => by
          rw [e] at ha
          rcases hd with z | ⟨o, z⟩ <;> rw [ha] at z <;> cases z
        have elen : kvs.length = es.length := hp.length
        have keep : ∀ {H' : Hp}, (∀ a o, a ≠ d → H a = some o → H' a = some o) → H' d = some (.frz od (.dK kvs)) → Same H (bk H') := fun {H'} h1 h2 a o ha => by
          by_cases e : a = d
          · rw [e] at ha ⊢; rw [b2 H' h2]; exact t1.same _ _ ha
          · rw [b1 H' a e]; exact h1 a o e ha
        refine ⟨_, rfl, d, od, kvs, rfl, hl, ?_⟩
        refine for_vals (fun i σ H' => ∃ F2 W2 x5 x6, σ = [some (.ref d), some (.str p), some (.ref f), some (.ref wt), some (.str c), x5, x6] ∧ SeekAt es p c i F2 W2 ∧ H' d = some (.frz od (.dK kvs)) ∧ (∀ a o, a ≠ d → H a = some o → H' a = some o) ∧
          H' f = some (.lst (F2.map V.str)) ∧ H' wt = some (.lst (W2.map V.str)) ∧ W2.length + F.length = W'.length + F2.length) ?_ (fun i σ H' _ ⟨_, _, _, _, _, _, h, _⟩ => h) ?_ ?_
        · exact ⟨F, W', x5, x6, rfl, sk.pop, hl, fun a o ne ha => (o1 a ne).trans (t1.same _ _ ha), (o1 f (dne t1.nf)).trans t1.hf, (o1 wt (dne t1.nw)).trans t1.hw, rfl⟩
        · rintro i kk v σ H' hi ⟨F2, W2, y5, y6, rfl, sa, h1, h2, h3, h4, h5⟩
          have hf2 := found_few sa.nd sa.sound
          have hw2 : W2.length ≤ 300 := by rw [List.length_append] at hm1; omega
          obtain ⟨e, he, ⟨rfl, q, rfl, hq⟩⟩ := L2.paired_get hp hi
          have nq : q ≠ d := fun z => by
            rw [z] at hq
            rcases hd with z | ⟨o, z⟩ <;> rw [hq] at z <;> cases z
          refine ⟨q, _, rfl, SqT.of (h2 q _ nq hq), rfl, _, _, rfl, _, _, rfl, rfl, ?_⟩
          refine ⟨_, rfl, _, rfl, rfl, _, rfl, ?_⟩
          by_cases hc : e.2.1 = c
          · rw [decide_eq_true (by rw [hc])]
            refine iteT ?_
            refine ⟨_, rfl, _, rfl, f, _, rfl, .inl (SqL.of h3), rfl, flat_names F2, _, rfl, ?_⟩
            rw [inV_names, if_pos rfl]
            by_cases hm : e.2.2 ∈ F2
            · rw [decide_eq_true hm]
              exact iteF ⟨F2, W2, _, _, rfl, sa.skip he fun _ => hm, h1, h2, h3, h4, h5⟩
            · rw [decide_eq_false hm]
              refine iteT ?_
              refine ⟨_, rfl, .inl ⟨rfl, _, SqL.of h3⟩, _, rfl, f, _, _, rfl, rfl, h3, small1000 (by rw [hcount]; omega), ?_⟩
              have h4' : (upd H' f (.lst (F2.map V.str ++ [V.str e.2.2]))) wt = some (.lst (W2.map V.str)) := by rw [upd_ne tw.ne.symm]; exact h4
              refine ⟨_, rfl, .inl ⟨rfl, _, SqL.of h4'⟩, _, rfl, wt, _, _, rfl, rfl, h4', small1000 (by rw [hcount]; omega), ?_⟩
              refine ⟨F2 ++ [e.2.2], W2 ++ [e.2.2], _, _, rfl, sa.add he hc hm, ?_, fun a o ne ha => ?_, ?_, ?_, ?_⟩
              · rw [upd_ne (dne tw.nw).symm, upd_ne (dne tw.nf).symm]; exact h1
              · rw [upd_ne (ne_of_none ha tw.nw), upd_ne (ne_of_none ha tw.nf)]; exact h2 a o ne ha
              · rw [upd_ne tw.ne, upd_same, List.map_append]; rfl
              · rw [upd_same, List.map_append]; rfl
              · rw [List.length_append, List.length_append]; show W2.length + 1 + _ = _ + (F2.length + 1); omega
          · rw [decide_eq_false (fun z => hc (V.str.inj z))]
            exact iteF ⟨F2, W2, _, _, rfl, sa.skip he fun z => absurd z hc, h1, h2, h3, h4, h5⟩
        · rintro σ H' ⟨F2, W2, y5, y6, rfl, sa, h1, h2, h3, h4, h5⟩
          rw [elen] at sa
          have hf2 := found_few sa.nd sa.sound
          refine ⟨h1, F2, W2, _, _, _, rfl, sa.back, ⟨keep h2 h1, tw.nf, tw.nw, tw.ne, by rw [b1 _ _ (dne tw.nf)]; exact h3, by rw [b1 _ _ (dne tw.nw)]; exact h4⟩, ?_⟩
          rw [List.length_append]
          show _ < W'.length + 1 + _
          omega
      · have h0 : W = [] := by
          cases W with
          | nil => rfl
          | cons z r => exact absurd (by simp : decide ((0:Int) < ((((z :: r).map V.str).length : Nat) : Int)) = true) hpos
        subst h0
        exact ⟨F, x4, x5, x6, rfl, sk, tw⟩
    · rintro σ Hc ⟨F, x4, x5, x6, rfl, sk, tw⟩
      exact ⟨_, rfl, k f F Hc tw.nf tw.same tw.hf sk.nd sk.done⟩
end

/-! ### useful links -/
/-- the link lies on a way from s to t -/
def Useful (es : List Ent) (s t : Str) (e : Ent) : Prop := (e.2.1 = s ∨ Lead es s e.2.1) ∧ (e.2.2 = t ∨ Lead es e.2.2 t)
open Classical in
noncomputable def usefulB (es : List Ent) (s t : Str) (e : Ent) : Bool := decide (Useful es s t e)
open Classical in
theorem useful_yes {es : List Ent} {s t : Str} {e : Ent} (h : Useful es s t e) : usefulB es s t e = true := by unfold usefulB; exact decide_eq_true h
open Classical in
theorem of_useful {es : List Ent} {s t : Str} {e : Ent} (h : usefulB es s t e = true) : Useful es s t e := by unfold usefulB at h; exact of_decide_eq_true h
section
variable {P : Program} {w : World} {K : PySem.W.Frag} {mg : Str → Option Value} {base : Heap}
def spUseful : Sp := fun vs H Q _ => ∃ (d : Addr) (es : List Ent) (s t : Str), vs = [.ref d, .str s, .str t] ∧ DictAt H d es ∧ es.length ≤ 100 ∧ ∀ (l : Addr) (H' : Hp), H l = none → Same H H' → H' l = some (.lst ((names (es.filter (usefulB es s t))).map V.str)) → Q (.ref l) H'
theorem ok_useful (T : Txt K mg) : FnOk P w K mg base CX0 2 T.f_useful_names T.d_useful_names ["table", "start", "end"] spUseful := by
  have G_places_behind : FnOk P w K mg base CX0 1 T.f_places_behind T.d_places_behind ["table", "first"] spBehind := ok_behind T
  refine T.F_useful_names.ok sc_useful_names (fun vs H Q E h => ?_) (fun cdv A outer s H vs Q E hr h => ?_)
  · obtain ⟨d, es, s, t, rfl, _⟩ := h
    rfl
  · obtain ⟨d, es, s, t, rfl, ⟨kvs, hd, hp⟩, hfew, k⟩ := h
    refine ⟨_, (pss_cons (ps_set (i := 3) sc_useful_names.nd rfl (Or.inr rfl) (pe_lst (pa_cons (pv 1) (StX.pa_star (pe_call G_places_behind (hr.mono (by decide)) rfl T.m_places_behind T.F_places_behind.kp T.b_places_behind .nil pass0 (pa_cons (pv 0) (pa_cons (pv 1) pa_nil))) pa_nil))))
    (pss_one (ps_ret (pe_lock (pe_lc (own := [("name", 4), ("tail", 5), ("head", 6)]) (g := gTup K 2 (gCons (gName 4) (gCons (gTup K 2 (gCons (gName 5) (gCons (gName 6) gNil))) gNil))) rfl sc_useful_names.nd (pi_items (pv 0)) (blkOk_by (N := ["table", "start", "end", "reached", "name", "tail", "head"]) (sc := defScope s_useful_names) (by decide +kernel)) (fun _ _ _ _ _ => (pg_tup rfl (pgs_cons (pg_name (i := 4) sc_useful_names.nd rfl (Or.inl rfl)) (pgs_cons (pg_tup rfl (pgs_cons (pg_name (i := 5) sc_useful_names.nd rfl (Or.inl rfl)) (pgs_cons (pg_name (i := 6) sc_useful_names.nd rfl (Or.inl rfl)) pgs_nil))) pgs_nil)))) (fun _ _ _ _ _ => pts_one (PW.pt (pw_and (pt_cmpR (show OpR _ _ (rIn K false) from op_in_seq) (pv 5) (pv 3) (by with_unfolding_all rfl)) (pw_and1 (pt_cmpR (show OpR _ _ (rIn K false) from op_in_seq) (pv 2) (pe_lst (pa_cons (pv 6) (show PA _ (.Starred _ _ :: _) (StX.tStar K _ _) from (StX.pa_star (pe_call G_places_behind (hr.mono (by decide)) rfl T.m_places_behind T.F_places_behind.kp T.b_places_behind .nil pass0 (pa_cons (pv 0) (pa_cons (pv 6) pa_nil))) pa_nil)))) (by with_unfolding_all rfl)))))) (fun _ _ _ _ _ => (pv 4))))))), ?_⟩
    refine ⟨_, rfl, _, rfl, _, rfl, d, es, s, rfl, ⟨kvs, .inl hd, hp⟩, hfew, fun b F H1 nb s1 hb ndF hF => ?_⟩
    refine ⟨b, _, rfl, .inr (SqL.of hb), ?_⟩
    have hfF := found_few ndF fun q hq => (hF q).mp hq
    refine ⟨Nat.le_of_lt (small1000 (by simp only [List.length_cons, List.length_append, List.length_map, List.length_nil]; omega)), fun L nL => ?_⟩
    rw [List.append_nil]
    have nLH : H L = none := s1.free nL
    have s2 : Same H (upd H1 L (.lst (V.str s :: F.map V.str))) := s1.trans (same_upd nL)
    generalize hH2 : upd H1 L (.lst (V.str s :: F.map V.str)) = H2 at s2
    have hL2 : H2 L = some (.lst (V.str s :: F.map V.str)) := by rw [← hH2]; exact upd_same
    refine ⟨d, _, s2 _ _ hd, trivial, fun od => ?_⟩
    have Ld : L ≠ d := fun z => by rw [z, s2 _ _ hd] at hL2; cases hL2
    refine ⟨_, rfl, d, od, kvs, rfl, upd_same, fun D hD => ?_⟩
    have Dd : D ≠ d := fun z => by rw [z, upd_same] at hD; cases hD
    have nD : H2 D = none := by rw [upd_ne Dd] at hD; exact hD
    refine lc_items (kvs := kvs) (fun i H' => H' d = some (.frz od (.dK kvs)) ∧ (∀ c o, c ≠ d → H2 c = some o → H' c = some o) ∧ H' D = some (.lst ((names ((es.take i).filter (usefulB es s t))).map V.str))) ⟨?_, ?_, upd_same⟩ (fun i H' _ h => h.1) ?_ ?_
    · rw [upd_ne Dd.symm]; exact upd_same
    · intro c o cd hc
      rw [upd_ne (ne_of_none hc nD), upd_ne cd]; exact hc
    · rintro i kk v U H' hi ⟨h1, h2, h3⟩ nU
      obtain ⟨e, he, ⟨rfl, q, rfl, hq⟩⟩ := L2.paired_get hp hi
      have nq : q ≠ d := fun z => by rw [z, hd] at hq; cases hq
      have hU : Same H' (upd H' U (.tup [kV (.inr e.1), .ref q])) := same_upd nU
      have h2' : ∀ c o, c ≠ d → H c = some o → (upd H' U (.tup [kV (.inr e.1), .ref q])) c = some o := fun c o cd hc => hU _ _ (h2 c o cd (s2 _ _ hc))
      have h1' := hU _ _ h1
      refine ⟨U, _, rfl, SqT.of upd_same, rfl, _, _, rfl, _, _, rfl, q, _, rfl, SqT.of (h2' q _ nq hq), rfl, _, _, rfl, _, _, rfl, rfl, rfl, rfl, ?_⟩
      generalize upd H' U (.tup [kV (.inr e.1), .ref q]) = H3 at hU h1' h2' ⊢
      have tk := take_more he
      have hD3 : H3 D = some (.lst ((names ((es.take i).filter (usefulB es s t))).map V.str)) := hU _ _ h3
      have no : ∀ {H4 : Hp}, Same H3 H4 → ¬ Useful es s t e → H4 d = some (.frz od (.dK kvs)) ∧ (∀ c o, c ≠ d → H2 c = some o → H4 c = some o) ∧ H4 D = some (.lst ((names ((es.take (i + 1)).filter (usefulB es s t))).map V.str)) := fun {H4} sm hn => by
        refine ⟨sm _ _ h1', fun c o cd hc => sm _ _ (hU _ _ (h2 c o cd hc)), ?_⟩
        rw [tk, List.filter_append, show [e].filter (usefulB es s t) = [] from List.filter_cons_of_neg (fun z => hn (of_useful z)), List.append_nil]
        exact sm _ _ hD3
      have hfew2 : (names ((es.take i).filter (usefulB es s t))).length < 1000 := by
        unfold names
        rw [List.length_map]
        have a := List.length_filter_le (usefulB es s t) (es.take i)
        rw [List.length_take] at a
        omega
      refine ⟨_, rfl, _, rfl, L, _, rfl, .inl (SqL.of (hU _ _ (h2 L _ Ld hL2))), rfl, (flat_names (s :: F)), _, rfl, ?_⟩
      rw [if_neg (by decide), show inV (.str e.2.1) (V.str s :: F.map V.str) = decide (e.2.1 ∈ s :: F) from inV_names _ (s :: F)]
      by_cases ha : e.2.1 ∈ s :: F
      · rw [decide_eq_true ha]
        have ha' : e.2.1 = s ∨ Lead es s e.2.1 := (List.mem_cons.mp ha).imp id (hF _).mp
        refine iteT ?_
        refine ⟨_, rfl, _, rfl, _, rfl, _, rfl, d, es, e.2.2, rfl, ⟨kvs, .inr ⟨od, h1'⟩, paired_on (fun _ _ z => z.on fun c o hc => h2' c _ (fun z => by rw [z, hd] at hc; cases hc) hc) hp⟩, hfew, fun b2 F2 H4 nb2 s4 hb2 nd2 hF2 => ?_⟩
        have hf2 := found_few nd2 fun q hq => (hF2 q).mp hq
        refine ⟨b2, _, rfl, .inr (SqL.of hb2), Nat.le_of_lt (small1000 (by simp only [List.length_cons, List.length_append, List.length_map, List.length_nil]; omega)), fun L2 nL2 => ?_⟩
        rw [List.append_nil]
        refine ⟨L2, _, rfl, .inl (SqL.of upd_same), rfl, (flat_names (e.2.2 :: F2)), _, rfl, ?_⟩
        have s5 := s4.trans (same_upd (o := .lst (V.str e.2.2 :: F2.map V.str)) nL2)
        rw [if_neg (by decide), show inV (.str t) (V.str e.2.2 :: F2.map V.str) = decide (t ∈ e.2.2 :: F2) from inV_names _ (e.2.2 :: F2)]
        by_cases hb : t ∈ e.2.2 :: F2
        · rw [decide_eq_true hb]
          have hb' : e.2.2 = t ∨ Lead es e.2.2 t := (List.mem_cons.mp hb).imp Eq.symm (hF2 _).mp
          refine iteT ⟨_, rfl, _, s5 _ _ hD3, small1000 (by rw [List.length_map]; exact Nat.le_of_lt hfew2), ?_, fun c o cd hc => ?_, ?_⟩
          · rw [upd_ne Dd.symm]; exact s5 _ _ h1'
          · rw [upd_ne (ne_of_none hc nD)]; exact s5 _ _ (hU _ _ (h2 c o cd hc))
          · rw [upd_same, tk, List.filter_append, show [e].filter (usefulB es s t) = [e] from List.filter_cons_of_pos (useful_yes ⟨ha', hb'⟩)]
            unfold names
            rw [List.map_append, List.map_append]
            rfl
        · rw [decide_eq_false hb]
          exact iteF (no s5 fun z => hb (List.mem_cons.mpr (z.2.imp Eq.symm (hF2 _).mpr)))
      · rw [decide_eq_false ha]
        exact iteF (no (Same.refl _) fun z => ha (List.mem_cons.mpr (z.1.imp id (hF _).mpr)))
    · rintro H' ⟨h1, h2, h3⟩
      rw [show es.take kvs.length = es from by rw [hp.length]; exact List.take_length] at h3
      refine ⟨h1, k D _ (s2.free nD) (fun c o hc => ?_) (by rw [upd_ne Dd]; exact h3)⟩
      by_cases e : c = d
      · rw [e] at hc ⊢; rw [upd_same, ← hd, hc]
      · rw [upd_ne e]; exact h2 c o e (s2 _ _ hc)
end

/-! ### the places in their order -/
def innOf (s t : Str) (qs : List Str) : List Str := qs.filter fun q => !(decide (q = s) || decide (q = t))
def endsOf (es : List Ent) : List Str := es.flatMap fun e => [e.2.1, e.2.2]
/-- the places of links from s to t in the order in which they are told -/
def Places (es : List Ent) (s t : Str) (ps : List Str) : Prop := ∃ ys : List Str, ps = s :: (ys ++ [t]) ∧ ys.Nodup ∧ PyProof.Rows.sortedS ys = true ∧ ∀ q, q ∈ ys ↔ q ∈ endsOf es ∧ q ≠ s ∧ q ≠ t
theorem mem_inn {s t : Str} {qs : List Str} {q : Str} : q ∈ innOf s t qs ↔ q ∈ qs ∧ q ≠ s ∧ q ≠ t := by
  unfold innOf
  rw [List.mem_filter]
  simp
theorem inn_len (s t : Str) (qs : List Str) : (innOf s t qs).length ≤ qs.length := List.length_filter_le _ _
theorem inn_no {s t z : Str} (qs : List Str) (h : z ∈ [s, t]) : innOf s t (qs ++ [z]) = innOf s t qs := by
  unfold innOf
  rw [List.filter_append, List.filter_cons_of_neg, List.filter_nil, List.append_nil]
  rcases List.mem_cons.mp h with h | h
  · simp [h]
  · simp [List.mem_singleton.mp h]
theorem inn_yes {s t z : Str} (qs : List Str) (n1 : z ≠ s) (n2 : z ≠ t) : innOf s t (qs ++ [z]) = innOf s t qs ++ [z] := by
  unfold innOf
  rw [List.filter_append, List.filter_cons_of_pos, List.filter_nil]
  simp [n1, n2]
theorem ends_len (es : List Ent) : (endsOf es).length = 2 * es.length := by
  induction es with
  | nil => rfl
  | cons e r ih =>
    show (endsOf (e :: r)).length = 2 * (r.length + 1)
    unfold endsOf at ih ⊢
    rw [List.flatMap_cons, List.length_append, ih]
    show 2 + _ = _
    omega
section
variable {P : Program} {w : World} {K : PySem.W.Frag} {mg : Str → Option Value} {base : Heap}
def spPlaces : Sp := fun vs H Q _ => ∃ (d : Addr) (es : List Ent) (s t : Str), vs = [.ref d, .str s, .str t] ∧ DictAt H d es ∧ es.length ≤ 20 ∧ ∀ (l : Addr) (ps : List Str) (H' : Hp), H l = none → Same H H' → H' l = some (.tup (ps.map V.str)) → Places es s t ps → Q (.ref l) H'
theorem ok_places (T : Txt K mg) : FnOk P w K mg base CX0 1 T.f_ordered_places T.d_ordered_places ["table", "start", "end"] spPlaces := by
  refine T.F_ordered_places.ok sc_ordered_places (fun vs H Q E h => ?_) (fun cdv A outer s H vs Q E hr h => ?_)
  · obtain ⟨d, es, s, t, rfl, _⟩ := h
    rfl
  · obtain ⟨d, es, s, t, rfl, ⟨kvs, hd, hp⟩, hfew, k⟩ := h
    refine ⟨_, (pss_cons (ps_lock (ps_setLc2 (i := 3) (own := [("ends", 4), ("place", 5)]) (vs1 := [5]) (g := gName 4) (g1 := gName 5) (tt := tYes) rfl sc_ordered_places.nd rfl rfl (sw_true rfl rfl rfl (by decide +kernel)) (pi_values (pv 0)) (blkOk_by (N := ["table", "start", "end", "inner", "ends", "place"]) (sc := defScope s_ordered_places) (by decide +kernel)) (by decide) (fun _ _ _ _ _ => (pg_name (i := 4) sc_ordered_places.nd rfl (Or.inl rfl))) (fun _ _ _ _ _ => pts_nil) (fun _ _ _ _ _ => (show PI _ _ _ (iTup K _) from (pi_tup (pv 4)))) (fun _ _ _ _ _ => (pg_name (i := 5) sc_ordered_places.nd rfl (Or.inl rfl))) (fun _ _ _ _ _ => pts_one (pt_cmpR (show OpR _ _ (rIn K true) from op_notIn_seq) (pv 5) (pe_tup (pa_cons (pv 1) (pa_cons (pv 2) pa_nil))) (by with_unfolding_all rfl))) (fun _ _ _ _ _ => (pv 5))))
    (pss_one (ps_ret (pe_tup (pa_cons (pv 1) (StX.pa_star (pe_callB (cr_sortTx rfl) (by rfl) T.n_sorted (by decide +kernel) (pa_cons (pe_callTy (cr_setTx rfl) (by rfl) T.n_set (by decide +kernel) (pa_cons (pv 3) pa_nil)) pa_nil)) (pa_cons (pv 2) pa_nil))))))), ?_⟩
    refine ⟨d, _, hd, trivial, fun od => ?_⟩
    refine ⟨_, rfl, d, od, kvs, rfl, upd_same, fun D hD => ?_⟩
    have Dd : D ≠ d := fun z => by rw [z, upd_same] at hD; cases hD
    have nD : H D = none := by rw [upd_ne Dd] at hD; exact hD
    refine lc2_vals (kvs := kvs) (fun i H' => H' d = some (.frz od (.dK kvs)) ∧ (∀ c o, c ≠ d → H c = some o → H' c = some o) ∧ H' D = some (.lst ((innOf s t (endsOf (es.take i))).map V.str))) ⟨?_, ?_, upd_same⟩ (fun i H' _ h => h.1) ?_ ?_
    · rw [upd_ne Dd.symm]; exact upd_same
    · intro c o cd hc
      rw [upd_ne (ne_of_none hc nD), upd_ne cd]; exact hc
    · rintro i kk v H' hi ⟨h1, h2, h3⟩
      obtain ⟨e, he, ⟨rfl, q, rfl, hq⟩⟩ := L2.paired_get hp hi
      have nq : q ≠ d := fun z => by rw [z, hd] at hq; cases hq
      have tk : endsOf (es.take (i + 1)) = endsOf (es.take i) ++ [e.2.1, e.2.2] := by
        rw [take_more he]
        unfold endsOf
        rw [List.flatMap_append, List.flatMap_singleton]
      have hlt := (List.getElem?_eq_some_iff.mp he).1
      refine ⟨rfl, _, rfl, q, rfl, ⟨_, SqT.of (h2 q _ nq hq)⟩, ?_⟩
      refine lc2_tup (K := K) (a := q) (xs := [V.str e.2.1, .str e.2.2]) (fun j H' => H' d = some (.frz od (.dK kvs)) ∧ (∀ c o, c ≠ d → H c = some o → H' c = some o) ∧ H' D = some (.lst ((innOf s t (endsOf (es.take i) ++ [e.2.1, e.2.2].take j)).map V.str))) ⟨h1, h2, by rw [List.take_zero, List.append_nil]; exact h3⟩ (fun j H' _ h => SqT.of (h.2.1 q _ nq hq)) ?_ ?_
      · rintro j x H' hj ⟨h1, h2, h3⟩
        obtain ⟨z, hz, rfl⟩ : ∃ z, [e.2.1, e.2.2][j]? = some z ∧ x = V.str z := by
          have hlt := (List.getElem?_eq_some_iff.mp hj).1
          match j, hlt, hj with
          | 0, _, hj => exact ⟨_, rfl, (Option.some.inj hj).symm⟩
          | 1, _, hj => exact ⟨_, rfl, (Option.some.inj hj).symm⟩
        have tz := take_more hz
        have sml : (innOf s t (endsOf (es.take i) ++ [e.2.1, e.2.2].take j)).length ≤ 100 := by
          have a := inn_len s t (endsOf (es.take i) ++ [e.2.1, e.2.2].take j)
          rw [List.length_append, ends_len, List.length_take, List.length_take] at a
          have : [e.2.1, e.2.2].length = 2 := rfl
          omega
        refine ⟨rfl, _, rfl, _, rfl, _, rfl, by show 2 ≤ sizeLine; decide, fun U nU => ?_⟩
        refine ⟨U, _, rfl, .inr (SqT.of upd_same), rfl, rfl, _, rfl, ?_⟩
        rw [if_pos rfl, show inV (.str z) [V.str s, .str t] = decide (z ∈ [s, t]) from inV_names z [s, t], tz]
        have sU : Same H' (upd H' U (.tup [V.str s, .str t])) := same_upd nU
        by_cases hz2 : z ∈ [s, t]
        · rw [decide_eq_true hz2]
          refine iteF ⟨sU _ _ h1, fun c o cd hc => sU _ _ (h2 c o cd hc), ?_⟩
          rw [← List.append_assoc, inn_no _ hz2]
          exact sU _ _ h3
        · rw [decide_eq_false hz2]
          have n1 : z ≠ s := fun h => hz2 (h ▸ List.mem_cons_self)
          have n2 : z ≠ t := fun h => hz2 (h ▸ List.mem_cons_of_mem _ List.mem_cons_self)
          refine iteT ⟨_, rfl, _, sU _ _ h3, small1000 (by rw [List.length_map]; omega), ?_, fun c o cd hc => ?_, ?_⟩
          · rw [upd_ne Dd.symm]; exact sU _ _ h1
          · rw [upd_ne (ne_of_none hc nD)]; exact sU _ _ (h2 c o cd hc)
          · rw [upd_same]
            rw [← List.append_assoc, inn_yes _ n1 n2, List.map_append]
            rfl
      · rintro H' ⟨h1, h2, h3⟩
        exact ⟨h1, h2, by rw [tk]; exact h3⟩
    · rintro H' ⟨h1, h2, h3⟩
      rw [show es.take kvs.length = es from by rw [hp.length]; exact List.take_length] at h3
      have s1 : Same H (upd H' d (.dK kvs)) := fun c o hc => by
        by_cases e : c = d
        · rw [e] at hc ⊢; rw [upd_same, ← hd, hc]
        · rw [upd_ne e]; exact h2 c o e hc
      refine ⟨h1, ?_⟩
      have h3' : (upd H' d (.dK kvs)) D = some (.lst ((innOf s t (endsOf es)).map V.str)) := by rw [upd_ne Dd]; exact h3
      generalize upd H' d (.dK kvs) = H1 at s1 h3' ⊢
      have sml := inn_len s t (endsOf es)
      rw [ends_len] at sml
      refine ⟨_, rfl, _, rfl, D, _, rfl, SqL.of h3', by omega, fun S nS => ?_⟩
      refine ⟨S, _, rfl, upd_same, by omega, fun ys L nd hm so hle nL => ?_⟩
      have s2 := (s1.trans (same_upd (o := TxO P w S (innOf s t (endsOf es))) nS)).trans (same_upd (o := .lst (ys.map V.str)) nL)
      refine ⟨L, _, rfl, .inr (SqL.of upd_same), _, rfl, ?_⟩
      refine ⟨Nat.le_of_lt (small1000 (by simp only [List.length_cons, List.length_append, List.length_map, List.length_nil]; omega)), fun p np => ?_⟩
      refine k p (s :: (ys ++ [t])) _ (s2.free np) (s2.trans (same_upd np)) (by rw [upd_same, List.map_cons, List.map_append]; rfl) ⟨ys, rfl, nd, so, fun q => ?_⟩
      rw [hm q, mem_inn]
end

/-! ### the checks of a network's links -/
/-- the thing at q tells a link -/
def RowAt (K : PySem.W.Frag) (H : Hp) (q : Addr) (e : Ent) : Prop := SqT K H q [.str e.1, .str e.2.1, .str e.2.2] ∨ SqL K H q [.str e.1, .str e.2.1, .str e.2.2]
def Rows (K : PySem.W.Frag) (H : Hp) (a : Addr) (es : List Ent) : Prop := ∃ qs : List Addr, (SqL K H a (qs.map V.ref) ∨ SqT K H a (qs.map V.ref)) ∧ Paired (RowAt K H) qs es
theorem RowAt.on {K : PySem.W.Frag} {H H' : Hp} {q : Addr} {e : Ent} (h : RowAt K H q e) (s : Same H H') : RowAt K H' q e := h.elim (fun z => .inl (sqT_on s z)) fun z => .inr (s.seq z)
theorem Rows.on {K : PySem.W.Frag} {H H' : Hp} {a : Addr} {es : List Ent} (h : Rows K H a es) (s : Same H H') : Rows K H' a es := let ⟨qs, a, b⟩ := h; ⟨qs, a.elim (fun z => .inl (s.seq z)) (fun z => .inr (sqT_on s z)), paired_on (fun _ _ e => e.on s) b⟩
theorem seq_ask {K : PySem.W.Frag} {H : Hp} {a : Addr} {xs : List V} {n : Nat} {t : TGs} {σ : L2.St} {Q : L2.St → Hp → Prop} (h : SqT K H a xs ∨ SqL K H a xs) (hn : xs.length = n) (k : t xs σ H Q) : gSeq K n t (.ref a) σ H Q :=
  h.elim (fun z => .inl ⟨a, xs, rfl, z, hn, k⟩) fun z => .inr ⟨a, xs, rfl, z, hn, k⟩
theorem drop_at {α : Type} {l : List α} {i : Nat} {x : α} (h : l[i]? = some x) : l.drop i = x :: l.drop (i + 1) := by
  obtain ⟨hl, e⟩ := List.getElem?_eq_some_iff.mp h
  rw [List.drop_eq_getElem_cons hl, e]
/-- the error that the names of links are due: no name (true), a name twice (false) -/
def nmErr : List Str → List Ent → Option (Bool × Str)
  | _, [] => none
  | ks, e :: r => if vn e.1 = true then (if e.1 ∈ ks then some (false, e.1) else (bad [e.2.1, e.2.2]).elim (nmErr (ks ++ [e.1]) r) fun z => some (true, z)) else some (true, e.1)
def WnE (e : Ent) : Prop := Wn e.1 ∧ Wn e.2.1 ∧ Wn e.2.2
def flagKs (ns : List Str) : List (Key × V) := ns.map fun n => (.inr n, .bl true)
theorem flag_val (ns : List Str) (n : Str) : (valV (flagKs ns) (.inr n : Key)).isSome = decide (n ∈ ns) := by
  induction ns with
  | nil => rfl
  | cons m r ih =>
    show (valV ((.inr m, .bl true) :: flagKs r) (.inr n : Key)).isSome = _
    by_cases h : m = n
    · rw [valV_pos (by rw [h])]
      simp [h]
    · have h2 : ¬ n = m := fun z => h z.symm
      rw [valV_neg (fun z => h (Sum.inr.inj z)), ih]
      simp [h2]
theorem flag_put {ns : List Str} {n : Str} (h : n ∉ ns) : putK (flagKs ns) (.inr n : Key) (.bl true) = flagKs (ns ++ [n]) := by
  have e := flag_val ns n
  rw [decide_eq_false h] at e
  unfold putK
  rw [valV_any, e, if_neg Bool.false_ne_true]
  unfold flagKs
  rw [List.map_append]
  rfl
section
variable {P : Program} {w : World} {K : PySem.W.Frag} {mg : Str → Option Value} {base : Heap}
def spNames (K : PySem.W.Frag) (DB DD : Addr) : Sp := fun vs H Q E => ∃ (a : Addr) (es : List Ent), vs = [.ref a] ∧ Rows K H a es ∧ es.length ≤ 100 ∧ (∀ e ∈ es, WnE e) ∧ (∀ z, nmErr [] es = some (true, z) → Raised H "name" (.str z) DB E) ∧
  (∀ z, nmErr [] es = some (false, z) → Raised H "name" (.str z) DD E) ∧ (nmErr [] es = none → ∀ H', Same H H' → Q .non H')
theorem ok_names (T : Txt K mg) : FnOk P w K mg base (L2.CX P w) 3 T.f_check_names T.d_check_names ["links"] (spNames K T.f_BadName T.f_DuplicateName) := by
  have G_BadName_init : FnOk P w K mg base CX0 1 T.f_BadName_init T.d_BadName_init ["self", "name"] (spErr "name" T.f_BadName) := ok_eBadName T
  have G_DuplicateName_init : FnOk P w K mg base CX0 1 T.f_DuplicateName_init T.d_DuplicateName_init ["self", "name"] (spErr "name" T.f_DuplicateName) := ok_eDuplicateName T
  have G_valid_name : FnOk P w K mg base CX0 1 T.f_valid_name T.d_valid_name ["text"] spName := ok_valid T
  refine T.F_check_names.okX sc_check_names (fun vs H Q E h => ?_) (fun cdv A outer s H vs Q E hr h => ?_)
  · obtain ⟨a, es, rfl, _⟩ := h
    rfl
  · obtain ⟨a, es, rfl, ⟨qs, hq, hp⟩, hfew, hw, k1, k2, k3⟩ := h
    refine ⟨_, (pss_cons (ps_set (i := 1) sc_check_names.nd rfl (Or.inl rfl) pe_dnewK)
    (pss_one (ps_for (passes_of rfl) rfl (pi_seq (pv 0)) (pg_seq rfl (pgs_cons (pg_name (i := 2) sc_check_names.nd rfl (Or.inl rfl)) (pgs_cons (pg_name (i := 3) sc_check_names.nd rfl (Or.inl rfl)) (pgs_cons (pg_name (i := 4) sc_check_names.nd rfl (Or.inl rfl)) pgs_nil))))
      (pss_cons (ps_if (pt_not (pt_val (pe_call G_valid_name (hr.mono (by decide)) rfl T.m_valid_name T.F_valid_name.kp T.b_valid_name .nil pass0 (pa_cons (pv 2) pa_nil))))
      (pss_one (ps_raise rfl (takes_of rfl rfl rfl rfl) (pmk_oex T.ox_BadName T.ix_BadName T.tx_BadName G_BadName_init (hr.mono (by decide)) T.b_BadName_init .nil pass0 rfl T.m_BadName (pa_cons (pv 2) pa_nil))))
      pss_nil)
    (pss_cons (ps_if (pt_cmp (pc_din (hu_of hr) (pv 2) (pv 1)))
      (pss_one (ps_raise rfl (takes_of rfl rfl rfl rfl) (pmk_oex T.ox_DuplicateName T.ix_DuplicateName T.tx_DuplicateName G_DuplicateName_init (hr.mono (by decide)) T.b_DuplicateName_init .nil pass0 rfl T.m_DuplicateName (pa_cons (pv 2) pa_nil))))
      pss_nil)
    (C8.pss_cut (ps_for (passes_of rfl) rfl (pi_tup (pe_tup (pa_cons (pv 3) (pa_cons (pv 4) pa_nil)))) (pg_name (i := 5) sc_check_names.nd rfl (Or.inl rfl))
      (pss_one (ps_if (pt_not (pt_val (pe_call G_valid_name (hr.mono (by decide)) rfl T.m_valid_name T.F_valid_name.kp T.b_valid_name .nil pass0 (pa_cons (pv 5) pa_nil))))
      (pss_one (ps_raise rfl (takes_of rfl rfl rfl rfl) (pmk_oex T.ox_BadName T.ix_BadName T.tx_BadName G_BadName_init (hr.mono (by decide)) T.b_BadName_init .nil pass0 rfl T.m_BadName (pa_cons (pv 5) pa_nil))))
      pss_nil)))
    (pss_one (ps_asg pe_bl (pg_sub (pv 1) (pv 2) (set_dict (hu_of hr))))))))))), ?_⟩
    refine fun kn nk => ?_
    have al : ∀ {H' : Hp}, Same H H' → (SqL K H a (qs.map V.ref) → SqL K H' a (qs.map V.ref)) ∧ (SqT K H a (qs.map V.ref) → SqT K H' a (qs.map V.ref)) := fun s => ⟨s.seq, fun z => sqT_on s z⟩
    refine ⟨_, rfl, a, rfl, ?_⟩
    refine for_seq hq (xs := qs.map V.ref) (fun i σ H' => ∃ x2 x3 x4 x5, σ = [some (.ref a), some (.ref kn), x2, x3, x4, x5] ∧ Same H H' ∧ H' kn = some (.dK (flagKs (names (es.take i)))) ∧ nmErr [] es = nmErr (names (es.take i)) (es.drop i)) ⟨_, _, _, _, rfl, same_upd nk, upd_same, rfl⟩ (fun i σ H' ⟨_, _, _, _, _, h, _⟩ => al h) ?_ ?_
    · rintro i x σ H' hi ⟨x2, x3, x4, x5, rfl, s1, hk, he⟩
      obtain ⟨q, hq, rfl⟩ : ∃ q, qs[i]? = some q ∧ x = V.ref q := by
        rw [List.getElem?_map] at hi
        cases e : qs[i]? with
        | none => rw [e] at hi; cases hi
        | some q => rw [e] at hi; exact ⟨q, rfl, (Option.some.inj hi).symm⟩
      obtain ⟨e, hei, hr⟩ := L2.paired_get hp hq
      rw [drop_at hei] at he
      refine seq_ask (hr.on s1) rfl ⟨_, _, rfl, _, _, rfl, _, _, rfl, rfl, ?_⟩
      have we := hw e (List.mem_of_getElem? hei)
      refine ⟨_, rfl, e.1, rfl, we.1.1, we.1.2, fun H2 s2 => ?_⟩
      refine ⟨vn e.1, rfl, ?_⟩
      have s02 : Same H H2 := s1.trans s2
      by_cases hv : vn e.1 = true
      · rw [hv]
        refine iteF ?_
        refine ⟨_, rfl, _, rfl, kn, _, rfl, DGet.k (k := .inr e.1) (s2 _ _ hk), ?_⟩
        rw [flag_val]
        by_cases hm : e.1 ∈ names (es.take i)
        · rw [decide_eq_true hm]
          refine ⟨_, rfl, iteT ?_⟩
          refine ⟨_, rfl, (by show 1 ≤ 1000; decide), fun a na => ?_⟩
          refine ⟨a, .str e.1, rfl, upd_same, fun d H' nd ne eq => ⟨rfl, d, [("name", .str e.1)], ?_⟩⟩
          exact raise_asks na ((k2 e.1 (by rw [he]; simp [nmErr, hv, hm])).on s02) d H' nd ne eq
        · rw [decide_eq_false hm]
          refine ⟨_, rfl, iteF ?_⟩
          refine ⟨fun σ H' => ∃ x5, σ = [some (.ref a), some (.ref kn), some (.str e.1), some (.str e.2.1), some (.str e.2.2), x5] ∧ Same H2 H' ∧ bad [e.2.1, e.2.2] = none, ?_, ?_⟩
          · refine ⟨_, rfl, _, rfl, by show 2 ≤ sizeLine; decide, fun tu ntu => ?_⟩
            refine ⟨tu, rfl, ⟨_, SqT.of upd_same⟩, ?_⟩
            refine for_tup (K := K) (a := tu) (xs := [V.str e.2.1, V.str e.2.2]) (fun i σ H' => ∃ x5, σ = [some (.ref a), some (.ref kn), some (.str e.1), some (.str e.2.1), some (.str e.2.2), x5] ∧ Same (upd H2 tu (.tup [V.str e.2.1, .str e.2.2])) H' ∧ ∀ z ∈ [e.2.1, e.2.2].take i, vn z = true) ⟨_, rfl, Same.refl _, fun z hz => by simp at hz⟩ (fun i σ H' _ ⟨_, _, s, _⟩ => SqT.of (s _ _ upd_same)) ?_ ?_
            · rintro i v σ H' hi ⟨x5, rfl, s3, hz⟩
              obtain ⟨z, rfl, ez, wz⟩ : ∃ z, v = .str z ∧ [e.2.1, e.2.2][i]? = some z ∧ Wn z := by
                have hlt := (List.getElem?_eq_some_iff.mp hi).1
                match i, hlt, hi with
                | 0, _, hi => exact ⟨_, (Option.some.inj hi).symm, rfl, we.2.1⟩
                | 1, _, hi => exact ⟨_, (Option.some.inj hi).symm, rfl, we.2.2⟩
              refine ⟨_, rfl, z, rfl, wz.1, wz.2, fun H4 s4 => ?_⟩
              refine ⟨vn z, rfl, ?_⟩
              have s04 : Same H H4 := ((s02.trans (same_upd ntu)).trans s3).trans s4
              by_cases hvz : vn z = true
              · rw [hvz]
                refine iteF ⟨_, rfl, s3.trans s4, fun q hq => ?_⟩
                rw [take_more ez] at hq
                rcases List.mem_append.mp hq with hq | hq
                · exact hz q hq
                · rw [List.mem_singleton.mp hq]; exact hvz
              · rw [Bool.eq_false_iff.mpr hvz]
                refine iteT ?_
                refine ⟨_, rfl, (by show 1 ≤ 1000; decide), fun a na => ?_⟩
                refine ⟨a, .str z, rfl, upd_same, fun d H' nd ne eq => ⟨rfl, d, [("name", .str z)], ?_⟩⟩
                exact raise_asks na ((k1 z (by rw [he]; simp [nmErr, hv, hm, bad_at hz ez hvz])).on s04) d H' nd ne eq
            · rintro σ H' ⟨x5, rfl, s3, hz⟩
              refine ⟨x5, rfl, (same_upd ntu).trans s3, ?_⟩
              unfold bad
              rw [List.find?_eq_none]
              intro z hmz
              rw [hz z hmz]
              decide
          · rintro σ H3 ⟨x5, rfl, s3, hb⟩
            have s03 := s02.trans s3
            have hk3 := s3 _ _ (s2 _ _ hk)
            have nkH : H kn = none := nk
            refine ⟨_, rfl, _, rfl, kn, _, rfl, DPut.k (k := .inr e.1) hk3 (small1000 (by unfold flagKs names; rw [List.length_map, List.length_map, List.length_take]; omega)), ?_⟩
            refine ⟨_, _, _, _, rfl, same_mut s03 nkH, ?_, ?_⟩
            · rw [upd_same, flag_put hm, names_take hei]
            · rw [he, names_take hei]
              simp [nmErr, hv, hm, hb]
      · rw [Bool.eq_false_iff.mpr hv]
        refine iteT ?_
        refine ⟨_, rfl, (by show 1 ≤ 1000; decide), fun a na => ?_⟩
        refine ⟨a, .str e.1, rfl, upd_same, fun d H' nd ne eq => ⟨rfl, d, [("name", .str e.1)], ?_⟩⟩
        exact raise_asks na ((k1 e.1 (by rw [he]; simp [nmErr, hv])).on s02) d H' nd ne eq
    · rintro σ H' ⟨x2, x3, x4, x5, rfl, s1, hk, he⟩
      rw [List.length_map, hp.length, List.take_length, List.drop_length] at he
      exact k3 he H' s1
end

/-! ### no round, no useless link -/
open Classical in
noncomputable def roundB (es : List Ent) (e : Ent) : Bool := decide (Lead es e.2.2 e.2.1)
open Classical in
theorem round_yes {es : List Ent} {e : Ent} (h : Lead es e.2.2 e.2.1) : roundB es e = true := by unfold roundB; exact decide_eq_true h
open Classical in
theorem of_round {es : List Ent} {e : Ent} (h : roundB es e = true) : Lead es e.2.2 e.2.1 := by unfold roundB at h; exact of_decide_eq_true h
noncomputable def rdErr (es : List Ent) : Option Str := (es.find? (roundB es)).map (·.1)
noncomputable def useErr (es : List Ent) (s t : Str) : Option Str := (es.find? fun e => !usefulB es s t e).map (·.1)
/-- an exception's own dict, new; the thing at a may have changed -/
def RaisedX (a : Addr) (H : Hp) (nm : Str) (v : V) (D : Addr) (E : XK) : Prop := ∀ d H', H d = none → (∀ c o, c ≠ a → H c = some o → H' c = some o) → H' d = some (.xd [(nm, v)]) → E (.ref D) (some d) H'
theorem Raised.but {a : Addr} {H0 H : Hp} {nm : Str} {v : V} {D : Addr} {E : XK} (r : Raised H0 nm v D E) (s : Same H0 H) (n : H0 a = none) : RaisedX a H nm v D E := fun d H' nd k e => r d H' (s.free nd) (fun c o hc => k c o (ne_of_none hc n) (s _ _ hc)) e
theorem raiseX_asks {a0 : Addr} {H H2 : Hp} {nm : Str} {v : V} {D a : Addr} {E : XK} (na : H2 a = none) (k : RaisedX a0 H nm v D E) (kp : ∀ c o, c ≠ a0 → H c = some o → H2 c = some o) (ka : H2 a0 ≠ none) (d : Addr) (H' : Hp) (nd : (upd H2 a (exo a D none)) d = none) (ne : d ≠ a) (e : H' = upd (upd (upd H2 a (exo a D none)) d (exd d [(nm, v)])) a (exo a D (some d))) :
    H' a = some (exo a D (some d)) ∧ H' d = some (exd d [(nm, v)]) ∧ H2 d = none ∧ E (.ref D) (some d) (upd (del H' a) d (.xd [(nm, v)])) := by
  have nd' : H2 d = none := by rw [upd_ne ne] at nd; exact nd
  have nH : ∀ {x : Addr}, H2 x = none → H x = none := fun {x} hx => by
    cases q : H x with
    | none => rfl
    | some o =>
      by_cases e0 : x = a0
      · rw [e0] at hx; exact absurd hx ka
      · rw [kp _ _ e0 q] at hx; cases hx
  refine ⟨by rw [e]; exact upd_same, by rw [e, upd_ne ne]; exact upd_same, nd', k d _ (nH nd') (fun b o ba hb => ?_) upd_same⟩
  have hb2 := kp b o ba hb
  have n1 : b ≠ d := ne_of_none hb2 nd'
  have n2 : b ≠ a := ne_of_none hb2 na
  rw [upd_ne n1, del_ne n2, e, upd_ne n2, upd_ne n1, upd_ne n2]
  exact hb2
theorem find_at {α : Type} {p : α → Bool} : ∀ {l : List α} {i : Nat} {x : α}, (∀ y ∈ l.take i, p y = false) → l[i]? = some x → p x = true → l.find? p = some x
  | [], i, x, _, h, _ => by simp at h
  | y :: l, 0, x, _, h, hp => by
    obtain rfl : y = x := Option.some.inj h
    exact List.find?_cons_of_pos hp
  | y :: l, i + 1, x, hn, h, hp => by
    rw [List.find?_cons_of_neg (by rw [hn y List.mem_cons_self]; decide)]
    exact find_at (fun z hz => hn z (List.mem_cons_of_mem _ hz)) h hp
section
variable {P : Program} {w : World} {K : PySem.W.Frag} {mg : Str → Option Value} {base : Heap}
def spRounds (DR : Addr) : Sp := fun vs H Q E => ∃ (d : Addr) (es : List Ent), vs = [.ref d] ∧ DictAt H d es ∧ es.length ≤ 100 ∧ (∀ z, rdErr es = some z → RaisedX d H "name" (.str z) DR E) ∧ (rdErr es = none → ∀ H', Same H H' → Q .non H')
theorem ok_rounds (T : Txt K mg) : FnOk P w K mg base (L2.CX P w) 3 T.f_check_rounds T.d_check_rounds ["table"] (spRounds T.f_HasRound) := by
  have G_HasRound_init : FnOk P w K mg base CX0 1 T.f_HasRound_init T.d_HasRound_init ["self", "name"] (spErr "name" T.f_HasRound) := ok_eHasRound T
  have G_places_behind : FnOk P w K mg base CX0 1 T.f_places_behind T.d_places_behind ["table", "first"] spBehind := ok_behind T
  refine T.F_check_rounds.okX sc_check_rounds (fun vs H Q E h => ?_) (fun cdv A outer s H vs Q E hr h => ?_)
  · obtain ⟨d, es, rfl, _⟩ := h
    rfl
  · obtain ⟨d, es, rfl, ⟨kvs, hd, hp⟩, hfew, k1, k2⟩ := h
    refine ⟨_, (pss_one (ps_lock (ps_for (passes_of rfl) rfl (pi_items (pv 0)) (pg_tup rfl (pgs_cons (pg_name (i := 1) sc_check_rounds.nd rfl (Or.inl rfl)) (pgs_cons (pg_tup rfl (pgs_cons (pg_name (i := 2) sc_check_rounds.nd rfl (Or.inl rfl)) (pgs_cons (pg_name (i := 3) sc_check_rounds.nd rfl (Or.inl rfl)) pgs_nil))) pgs_nil)))
      (pss_one (ps_if (pt_cmpR op_in_seq (pv 2) (pe_call G_places_behind (hr.mono (by decide)) rfl T.m_places_behind T.F_places_behind.kp T.b_places_behind .nil pass0 (pa_cons (pv 0) (pa_cons (pv 3) pa_nil))) (by with_unfolding_all rfl))
      (pss_one (ps_raise rfl (takes_of rfl rfl rfl rfl) (pmk_oex T.ox_HasRound T.ix_HasRound T.tx_HasRound G_HasRound_init (hr.mono (by decide)) T.b_HasRound_init .nil pass0 rfl T.m_HasRound (pa_cons (pv 1) pa_nil))))
      pss_nil))))), ?_⟩
    refine ⟨d, _, hd, trivial, fun od => ?_⟩
    refine ⟨_, rfl, d, od, kvs, rfl, upd_same, ?_⟩
    refine for_ents (kvs := kvs) (fun i σ H' => ∃ x1 x2 x3, σ = [some (.ref d), x1, x2, x3] ∧ H' d = some (.frz od (.dK kvs)) ∧ (∀ c o, c ≠ d → H c = some o → H' c = some o) ∧ ∀ e ∈ es.take i, roundB es e = false) ⟨_, _, _, rfl, upd_same, fun c o cd hc => by rw [upd_ne cd]; exact hc, fun e he => by simp at he⟩ (fun i σ H' _ ⟨_, _, _, _, h, _⟩ => h) ?_ ?_
    · rintro i kk v U σ H' hi ⟨x1, x2, x3, rfl, h1, h2, h3⟩ nU
      obtain ⟨e, he, ⟨rfl, q, rfl, hq⟩⟩ := L2.paired_get hp hi
      have nq : q ≠ d := fun z => by rw [z, hd] at hq; cases hq
      have hU : Same H' (upd H' U (.tup [kV (.inr e.1), .ref q])) := same_upd nU
      have h2' : ∀ c o, c ≠ d → H c = some o → (upd H' U (.tup [kV (.inr e.1), .ref q])) c = some o := fun c o cd hc => hU _ _ (h2 c o cd hc)
      have h1' := hU _ _ h1
      refine ⟨U, _, rfl, SqT.of upd_same, rfl, _, _, rfl, _, _, rfl, q, _, rfl, SqT.of (h2' q _ nq hq), rfl, _, _, rfl, _, _, rfl, rfl, rfl, ?_⟩
      generalize upd H' U (.tup [kV (.inr e.1), .ref q]) = H3 at hU h1' h2' ⊢
      refine ⟨_, rfl, _, rfl, _, rfl, d, es, e.2.2, rfl, ⟨kvs, .inr ⟨od, h1'⟩, paired_on (fun _ _ z => z.on fun c o hc => h2' c _ (fun z => by rw [z, hd] at hc; cases hc) hc) hp⟩, hfew, fun b2 F2 H4 nb2 s4 hb2 nd2 hF2 => ?_⟩
      refine ⟨b2, _, rfl, .inl (SqL.of hb2), rfl, flat_names F2, _, rfl, ?_⟩
      rw [if_neg (by decide), inV_names]
      have keep4 : ∀ c o, c ≠ d → H c = some o → H4 c = some o := fun c o cd hc => s4 _ _ (h2' c o cd hc)
      by_cases hm : e.2.1 ∈ F2
      · rw [decide_eq_true hm]
        refine iteT ?_
        refine ⟨_, rfl, (by show 1 ≤ 1000; decide), fun a na => ?_⟩
        refine ⟨a, .str e.1, rfl, upd_same, fun dd H' nd ne eq => ⟨rfl, dd, [("name", .str e.1)], ?_⟩⟩
        refine raiseX_asks na (k1 e.1 ?_) keep4 (by rw [s4 _ _ h1']; intro z; cases z) dd H' nd ne eq
        unfold rdErr
        rw [find_at h3 he (round_yes ((hF2 _).mp hm))]
        rfl
      · rw [decide_eq_false hm]
        refine iteF ⟨_, _, _, rfl, s4 _ _ h1', keep4, fun f hf => ?_⟩
        rw [take_more he] at hf
        rcases List.mem_append.mp hf with hf | hf
        · exact h3 f hf
        · rw [List.mem_singleton.mp hf]
          exact Bool.eq_false_iff.mpr fun z => hm ((hF2 _).mpr (of_round z))
    · rintro σ H' ⟨x1, x2, x3, rfl, h1, h2, h3⟩
      rw [show es.take kvs.length = es from by rw [hp.length]; exact List.take_length] at h3
      refine ⟨h1, k2 ?_ _ fun c o hc => ?_⟩
      · unfold rdErr
        rw [List.find?_eq_none.mpr fun e he => by rw [h3 e he]; decide]
        rfl
      · by_cases e : c = d
        · rw [e] at hc ⊢; rw [upd_same, ← hd, hc]
        · rw [upd_ne e]; exact h2 c o e hc
theorem mem_filter_names {p : Ent → Bool} {e : Ent} : ∀ {es : List Ent}, (names es).Nodup → e ∈ es → (e.1 ∈ names (es.filter p) ↔ p e = true)
  | es, nd, he => by
    constructor
    · intro h
      obtain ⟨f, hf, e1⟩ := List.mem_map.mp h
      obtain ⟨hf1, hf2⟩ := List.mem_filter.mp hf
      have : f = e := by
        clear h hf hf2
        induction es with
        | nil => cases he
        | cons g r ih =>
          have nd' : (g.1 :: names r).Nodup := nd
          obtain ⟨n1, n2⟩ := List.nodup_cons.mp nd'
          rcases List.mem_cons.mp hf1 with a | a
          · rcases List.mem_cons.mp he with b | b
            · rw [a, b]
            · exact absurd (List.mem_map.mpr ⟨e, b, e1.symm.trans (by rw [a])⟩) n1
          · rcases List.mem_cons.mp he with b | b
            · exact absurd (List.mem_map.mpr ⟨f, a, e1.trans (by rw [b])⟩) n1
            · exact ih n2 b a
      rw [← this]
      exact hf2
    · intro h
      exact List.mem_map.mpr ⟨e, List.mem_filter.mpr ⟨he, h⟩, rfl⟩
def spUse (DU : Addr) : Sp := fun vs H Q E => ∃ (d : Addr) (es : List Ent) (s t : Str), vs = [.ref d, .str s, .str t] ∧ DictAt H d es ∧ (names es).Nodup ∧ es.length ≤ 100 ∧ (∀ z, useErr es s t = some z → RaisedX d H "name" (.str z) DU E) ∧ (useErr es s t = none → ∀ H', Same H H' → Q .non H')
theorem ok_use (T : Txt K mg) : FnOk P w K mg base (L2.CX P w) 3 T.f_check_use T.d_check_use ["table", "start", "end"] (spUse T.f_UselessLink) := by
  have G_UselessLink_init : FnOk P w K mg base CX0 1 T.f_UselessLink_init T.d_UselessLink_init ["self", "name"] (spErr "name" T.f_UselessLink) := ok_eUselessLink T
  have G_useful_names : FnOk P w K mg base CX0 2 T.f_useful_names T.d_useful_names ["table", "start", "end"] spUseful := ok_useful T
  refine T.F_check_use.okX sc_check_use (fun vs H Q E h => ?_) (fun cdv A outer s H vs Q E hr h => ?_)
  · obtain ⟨d, es, s, t, rfl, _⟩ := h
    rfl
  · obtain ⟨d, es, s, t, rfl, ⟨kvs, hd, hp⟩, nd, hfew, k1, k2⟩ := h
    refine ⟨_, (pss_cons (ps_set (i := 3) sc_check_use.nd rfl (Or.inl rfl) (pe_call G_useful_names (hr.mono (by decide)) rfl T.m_useful_names T.F_useful_names.kp T.b_useful_names .nil pass0 (pa_cons (pv 0) (pa_cons (pv 1) (pa_cons (pv 2) pa_nil)))))
    (pss_one (ps_lock (ps_for (passes_of rfl) rfl (pi_keys (pv 0)) (pg_name (i := 4) sc_check_use.nd rfl (Or.inl rfl))
      (pss_one (ps_if (pt_cmpR op_notIn_seq (pv 4) (pv 3) (by with_unfolding_all rfl))
      (pss_one (ps_raise rfl (takes_of rfl rfl rfl rfl) (pmk_oex T.ox_UselessLink T.ix_UselessLink T.tx_UselessLink G_UselessLink_init (hr.mono (by decide)) T.b_UselessLink_init .nil pass0 rfl T.m_UselessLink (pa_cons (pv 4) pa_nil))))
      pss_nil)))))), ?_⟩
    refine ⟨_, rfl, _, rfl, _, rfl, d, es, s, t, rfl, ⟨kvs, hd, hp⟩, hfew, fun l H1 nl s1 hl => ?_⟩
    have ld : l ≠ d := fun z => by rw [z, hd] at nl; cases nl
    refine ⟨d, _, s1 _ _ hd, trivial, fun od => ?_⟩
    refine ⟨_, rfl, d, od, rfl, .inl ⟨kvs, upd_same, ?_⟩⟩
    refine for_keys (kvs := kvs) (fun i σ H' => ∃ x4, σ = [some (.ref d), some (.str s), some (.str t), some (.ref l), x4] ∧ H' d = some (.frz od (.dK kvs)) ∧ (∀ c o, c ≠ d → H1 c = some o → H' c = some o) ∧ ∀ e ∈ es.take i, usefulB es s t e = true) ⟨_, rfl, upd_same, fun c o cd hc => by rw [upd_ne cd]; exact hc, fun e he => by simp at he⟩ (fun i σ H' _ ⟨_, _, h, _⟩ => h) ?_ ?_
    · rintro i kk v σ H' hi ⟨x4, rfl, h1, h2, h3⟩
      obtain ⟨e, he, ⟨rfl, q, rfl, hq⟩⟩ := L2.paired_get hp hi
      refine ⟨_, rfl, _, rfl, l, _, rfl, .inl (SqL.of (h2 l _ ld hl)), rfl, flat_names _, _, rfl, ?_⟩
      rw [if_pos rfl, show inV (kV (.inr e.1)) ((names (es.filter (usefulB es s t))).map V.str) = decide (e.1 ∈ names (es.filter (usefulB es s t))) from inV_names _ _]
      have me := mem_filter_names (p := usefulB es s t) nd (List.mem_of_getElem? he)
      by_cases hu : usefulB es s t e = true
      · rw [decide_eq_true (me.mpr hu)]
        refine iteF ⟨_, rfl, h1, h2, fun f hf => ?_⟩
        rw [take_more he] at hf
        rcases List.mem_append.mp hf with hf | hf
        · exact h3 f hf
        · rw [List.mem_singleton.mp hf]; exact hu
      · rw [decide_eq_false (fun z => hu (me.mp z))]
        refine iteT ?_
        refine ⟨_, rfl, (by show 1 ≤ 1000; decide), fun a na => ?_⟩
        refine ⟨a, .str e.1, rfl, upd_same, fun dd H' nd ne eq => ⟨rfl, dd, [("name", .str e.1)], ?_⟩⟩
        refine raiseX_asks na (k1 e.1 ?_) (fun c o cd hc => h2 c o cd (s1 _ _ hc)) (by rw [h1]; intro z; cases z) dd H' nd ne eq
        unfold useErr
        rw [find_at (fun f hf => by rw [h3 f hf]; rfl) he (by rw [Bool.eq_false_iff.mpr hu]; rfl)]
        rfl
    · rintro σ H' ⟨x4, rfl, h1, h2, h3⟩
      rw [show es.take kvs.length = es from by rw [hp.length]; exact List.take_length] at h3
      refine ⟨h1, k2 ?_ _ fun c o hc => ?_⟩
      · unfold useErr
        rw [List.find?_eq_none.mpr fun e he => by rw [h3 e he]; decide]
        rfl
      · by_cases e : c = d
        · rw [e] at hc ⊢; rw [upd_same, ← hd, hc]
        · rw [upd_ne e]; exact h2 c o e (s1 _ _ hc)
end

/-! ### both ends -/
section
variable {P : Program} {w : World} {K : PySem.W.Frag} {mg : Str → Option Value} {base : Heap}
def spEnds (DB DD : Addr) : Sp := fun vs H Q E => ∃ s t : Str, vs = [.str s, .str t] ∧ Wn s ∧ Wn t ∧ (∀ z, bad [s, t] = some z → Raised H "name" (.str z) DB E) ∧ (bad [s, t] = none → s = t → Raised H "name" (.str t) DD E) ∧
  (bad [s, t] = none → s ≠ t → ∀ H', Same H H' → Q .non H')
theorem ok_ends (T : Txt K mg) : FnOk P w K mg base (L2.CX P w) 3 T.f_check_ends T.d_check_ends ["start", "end"] (spEnds T.f_BadName T.f_DuplicateName) := by
  have G_BadName_init : FnOk P w K mg base CX0 1 T.f_BadName_init T.d_BadName_init ["self", "name"] (spErr "name" T.f_BadName) := ok_eBadName T
  have G_DuplicateName_init : FnOk P w K mg base CX0 1 T.f_DuplicateName_init T.d_DuplicateName_init ["self", "name"] (spErr "name" T.f_DuplicateName) := ok_eDuplicateName T
  have G_valid_name : FnOk P w K mg base CX0 1 T.f_valid_name T.d_valid_name ["text"] spName := ok_valid T
  refine T.F_check_ends.okX sc_check_ends (fun vs H Q E h => ?_) (fun cdv A outer s H vs Q E hr h => ?_)
  · obtain ⟨s, t, rfl, _⟩ := h
    rfl
  · obtain ⟨s, t, rfl, ws, wt, k1, k2, k3⟩ := h
    refine ⟨_, (C8.pss_cut (ps_for (passes_of rfl) rfl (pi_tup (pe_tup (pa_cons (pv 0) (pa_cons (pv 1) pa_nil)))) (pg_name (i := 2) sc_check_ends.nd rfl (Or.inl rfl))
      (pss_one (ps_if (pt_not (pt_val (pe_call G_valid_name (hr.mono (by decide)) rfl T.m_valid_name T.F_valid_name.kp T.b_valid_name .nil pass0 (pa_cons (pv 2) pa_nil))))
      (pss_one (ps_raise rfl (takes_of rfl rfl rfl rfl) (pmk_oex T.ox_BadName T.ix_BadName T.tx_BadName G_BadName_init (hr.mono (by decide)) T.b_BadName_init .nil pass0 rfl T.m_BadName (pa_cons (pv 2) pa_nil))))
      pss_nil)))
    (pss_one (ps_if (pt_cmpR op_eq (pv 0) (pv 1) (nomark _))
      (pss_one (ps_raise rfl (takes_of rfl rfl rfl rfl) (pmk_oex T.ox_DuplicateName T.ix_DuplicateName T.tx_DuplicateName G_DuplicateName_init (hr.mono (by decide)) T.b_DuplicateName_init .nil pass0 rfl T.m_DuplicateName (pa_cons (pv 1) pa_nil))))
      pss_nil))), ?_⟩
    refine ⟨fun σ H' => ∃ x2, σ = [some (.str s), some (.str t), x2] ∧ Same H H' ∧ bad [s, t] = none, ?_, ?_⟩
    · refine ⟨_, rfl, _, rfl, by show 2 ≤ sizeLine; decide, fun tu ntu => ?_⟩
      have wall : ∀ {i : Nat} {v : V}, [V.str s, V.str t][i]? = some v → ∃ z, v = .str z ∧ [s, t][i]? = some z ∧ Wn z := by
        intro i v hi
        have hlt := (List.getElem?_eq_some_iff.mp hi).1
        match i, hlt, hi with
        | 0, _, hi => exact ⟨s, (Option.some.inj hi).symm, rfl, ws⟩
        | 1, _, hi => exact ⟨t, (Option.some.inj hi).symm, rfl, wt⟩
      refine ⟨tu, rfl, ⟨_, SqT.of upd_same⟩, ?_⟩
      refine for_tup (K := K) (a := tu) (xs := [V.str s, V.str t]) (fun i σ H' => ∃ x2, σ = [some (.str s), some (.str t), x2] ∧ Same (upd H tu (.tup [V.str s, .str t])) H' ∧ ∀ z ∈ [s, t].take i, vn z = true) ⟨_, rfl, Same.refl _, fun z hz => by simp at hz⟩ (fun i σ H' _ ⟨_, _, s, _⟩ => SqT.of (s _ _ upd_same)) ?_ ?_
      · rintro i v σ H' hi ⟨x2, rfl, s1, hz⟩
        obtain ⟨z, rfl, ez, wz⟩ := wall hi
        refine ⟨_, rfl, z, rfl, wz.1, wz.2, fun H2 s2 => ?_⟩
        refine ⟨vn z, rfl, ?_⟩
        have s02 : Same H H2 := ((same_upd ntu).trans s1).trans s2
        by_cases hv : vn z = true
        · rw [hv]
          refine iteF ⟨_, rfl, s1.trans s2, fun q hq => ?_⟩
          rw [take_more ez] at hq
          rcases List.mem_append.mp hq with hq | hq
          · exact hz q hq
          · rw [List.mem_singleton.mp hq]; exact hv
        · rw [Bool.eq_false_iff.mpr hv]
          refine iteT ?_
          refine ⟨_, rfl, (by show 1 ≤ 1000; decide), fun a na => ?_⟩
          refine ⟨a, .str z, rfl, upd_same, fun d H' nd ne e => ⟨rfl, d, [("name", .str z)], ?_⟩⟩
          exact raise_asks na ((k1 z (bad_at hz ez hv)).on s02) d H' nd ne e
      · rintro σ H' ⟨x2, rfl, s1, hz⟩
        refine ⟨x2, rfl, (same_upd ntu).trans s1, ?_⟩
        unfold bad
        rw [List.find?_eq_none]
        intro z hm
        rw [hz z hm]
        decide
    rintro σ H1 ⟨x2, rfl, s1, hg⟩
    refine ⟨_, rfl, _, rfl, rfl, _, rfl, ?_⟩
    by_cases hst : s = t
    · rw [show decide (V.str s = V.str t) = true by rw [hst]; simp]
      refine iteT ?_
      refine ⟨_, rfl, (by show 1 ≤ 1000; decide), fun a na => ?_⟩
      refine ⟨a, .str t, rfl, upd_same, fun d H' nd ne e => ⟨rfl, d, [("name", .str t)], ?_⟩⟩
      exact raise_asks na ((k2 hg hst).on s1) d H' nd ne e
    · rw [show decide (V.str s = V.str t) = false by simp [hst]]
      exact iteF (k3 hg hst H1 s1)
end

/-! ### a new network -/
inductive NE
  | count (n : Nat)
  | name (z : Str)
  | twice (z : Str)
  | round (z : Str)
  | useless (z : Str)
/-- the error that is due for the links' number, the ends, the names -/
def earlyErr (es : List Ent) (s t : Str) : Option NE :=
  if 1 ≤ es.length ∧ es.length ≤ 10 then
    match bad [s, t] with
    | some z => some (.name z)
    | none => if s = t then some (.twice t) else
      match nmErr [] es with
      | some (true, z) => some (.name z)
      | some (false, z) => some (.twice z)
      | none => none
  else some (.count es.length)
/-- the error that is due for rounds and useless links -/
noncomputable def lateErr (es : List Ent) (s t : Str) : Option NE :=
  match rdErr es with
  | some z => some (.round z)
  | none => match useErr es s t with
    | some z => some (.useless z)
    | none => none
structure Errs where
  count : Addr
  name : Addr
  twice : Addr
  round : Addr
  useless : Addr
def RaisedN (D : Errs) (x : NE) (H : Hp) (E : XK) : Prop := match x with
  | .count n => Raised H "count" (.int (n : Int)) D.count E
  | .name z => Raised H "name" (.str z) D.name E
  | .twice z => Raised H "name" (.str z) D.twice E
  | .round z => Raised H "name" (.str z) D.round E
  | .useless z => Raised H "name" (.str z) D.useless E
/-- what lies behind a place -/
def BehOk (ts : List Ent) (H : Hp) (kv : Key × V) (q : Str) : Prop := kv.1 = .inr q ∧ ∃ (l : Addr) (F : List Str), kv.2 = .ref l ∧ H l = some (.lst (F.map V.str)) ∧ ∀ x, x ∈ F ↔ Lead ts q x
/-- a network at n: its links by name, its places -/
def NetAt (C : Addr) (H : Hp) (n : Addr) (s t : Str) (ts : List Ent) (ps : List Str) : Prop :=
  ∃ (dx d p b : Addr) (kvs : List (Key × V)), H n = some (.ins C dx [("_start", .str s), ("_end", .str t), ("_links", .ref d), ("_places", .ref p), ("_behind", .ref b)]) ∧ DictAt H d ts ∧ H p = some (.tup (ps.map V.str)) ∧ H b = some (.dK kvs) ∧ Paired (BehOk ts H) kvs ps
theorem nm_nd : ∀ {es : List Ent} {ks : List Str}, nmErr ks es = none → (names es).Nodup ∧ ∀ e ∈ es, e.1 ∉ ks
  | [], _, _ => ⟨List.nodup_nil, fun e h => by cases h⟩
  | e :: r, ks, h => by
    unfold nmErr at h
    by_cases h1 : vn e.1 = true
    · rw [if_pos h1] at h
      by_cases h2 : e.1 ∈ ks
      · rw [if_pos h2] at h; cases h
      · rw [if_neg h2] at h
        cases hb : bad [e.2.1, e.2.2] with
        | some z => rw [hb] at h; cases h
        | none =>
          rw [hb] at h
          obtain ⟨n1, n2⟩ := nm_nd (es := r) (ks := ks ++ [e.1]) h
          refine ⟨List.nodup_cons.mpr ⟨fun hm => ?_, n1⟩, fun f hf => ?_⟩
          · obtain ⟨f, hf, e1⟩ := List.mem_map.mp hm
            exact n2 f hf (e1 ▸ List.mem_append_right _ (List.mem_singleton.mpr rfl))
          · rcases List.mem_cons.mp hf with z | z
            · rw [z]; exact h2
            · exact fun q => n2 f z (List.mem_append_left _ q)
    · rw [if_neg h1] at h; cases h
theorem nm_nodup {es : List Ent} (h : nmErr [] es = none) : (names es).Nodup := (nm_nd h).1
theorem keys_inr {H : Hp} : ∀ {kvs : List (Key × V)} {es : List Ent}, Paired (EntOk H) kvs es → kvs.map (·.1) = (names es).map Sum.inr
  | _, _, .nil => rfl
  | (k, v) :: kvs, e :: es, .cons a r => by
    have h1 : k = .inr e.1 := a.1
    subst h1
    show (Sum.inr e.1 :: kvs.map (·.1)) = _
    rw [keys_inr r]
    rfl
def tabOf (es : List Ent) (ys : List Str) : List Ent := ys.map fun n => (n, (found es n).getD ("", ""))
theorem tab_names (es : List Ent) (ys : List Str) : names (tabOf es ys) = ys := by
  unfold tabOf names
  rw [List.map_map]
  exact List.map_id _
theorem found_mem : ∀ {es : List Ent} {e : Ent}, (names es).Nodup → e ∈ es → found es e.1 = some e.2
  | f :: es, e, nd, he => by
    have nd' : (f.1 :: names es).Nodup := nd
    obtain ⟨n1, n2⟩ := List.nodup_cons.mp nd'
    unfold found
    rcases List.mem_cons.mp he with z | z
    · rw [z, List.find?_cons_of_pos (by simp)]
      rfl
    · rw [List.find?_cons_of_neg (by
        have : ¬ f.1 = e.1 := fun q => n1 (q ▸ List.mem_map.mpr ⟨e, z, rfl⟩)
        simpa using this)]
      exact found_mem n2 z
theorem tab_perm {es : List Ent} {ys : List Str} (nd : (names es).Nodup) (h : ys.Perm (names es)) : (tabOf es ys).Perm es := by
  have e : tabOf es (names es) = es := by
    unfold tabOf names
    rw [List.map_map]
    have : ∀ e ∈ es, ((fun n => (n, (found es n).getD ("", ""))) ∘ fun e : Ent => e.1) e = id e := fun e he => by
      show (e.1, (found es e.1).getD ("", "")) = e
      rw [found_mem nd he]
      rfl
    rw [List.map_congr_left this]
    exact List.map_id _
  have p := h.map fun n => (n, (found es n).getD ("", ""))
  have : (tabOf es ys).Perm (tabOf es (names es)) := p
  rw [e] at this
  exact this
section
variable {P : Program} {w : World} {K : PySem.W.Frag} {mg : Str → Option Value} {base : Heap}
theorem BehOk.on {ts : List Ent} {H H' : Hp} {kv : Key × V} {q : Str} (h : BehOk ts H kv q) (s : ∀ c o, H c = some (.lst o) → H' c = some (.lst o)) : BehOk ts H' kv q := let ⟨h1, l, F, h2, h3, h4⟩ := h; ⟨h1, l, F, h2, s _ _ h3, h4⟩
theorem beh_any {ts : List Ent} {H : Hp} {q : Str} : ∀ {kvs : List (Key × V)} {qs : List Str}, Paired (BehOk ts H) kvs qs → (kvs.any fun kv => decide (kv.1 = (.inr q : Key))) = decide (q ∈ qs)
  | _, _, .nil => rfl
  | (k, v) :: kvs, m :: qs, .cons a r => by
    have h1 : k = .inr m := a.1
    subst h1
    rw [List.any_cons, beh_any r]
    by_cases e : q = m
    · simp [e]
    · have e2 : ¬ m = q := fun z => e z.symm
      simp [e, e2]
theorem beh_put {ts : List Ent} {H : Hp} {q : Str} {v : V} {kvs : List (Key × V)} {qs : List Str} (h : Paired (BehOk ts H) kvs qs) (hn : q ∉ qs) : putK kvs (.inr q : Key) v = kvs ++ [(.inr q, v)] := by
  unfold putK
  rw [beh_any h, decide_eq_false hn, if_neg Bool.false_ne_true]
theorem places_nodup {es : List Ent} {s t : Str} {ps : List Str} (h : Places es s t ps) (hne : s ≠ t) : ps.Nodup := by
  obtain ⟨ys, rfl, nd, _, hm⟩ := h
  refine List.nodup_cons.mpr ⟨fun z => ?_, List.nodup_append.mpr ⟨nd, by simp, fun a ha b hb => ?_⟩⟩
  · rcases List.mem_append.mp z with z | z
    · exact ((hm s).mp z).2.1 rfl
    · exact hne (List.mem_singleton.mp z)
  · rw [List.mem_singleton.mp hb]
    exact ((hm a).mp ha).2.2
theorem paired_mem {α β : Type} {F G : α → β → Prop} : ∀ {xs : List α} {ys : List β}, (∀ a b, a ∈ xs → F a b → G a b) → Paired F xs ys → Paired G xs ys
  | _, _, _, .nil => .nil
  | _, _, h, .cons a r => .cons (h _ _ List.mem_cons_self a) (paired_mem (fun a b ha => h a b (List.mem_cons_of_mem _ ha)) r)
def spNet (K : PySem.W.Frag) (C : Addr) (D : Errs) : Sp := fun vs H Q E => ∃ (n dx a : Addr) (es : List Ent) (s t : Str), vs = [.ref n, .ref a, .str s, .str t] ∧ H n = some (.ins C dx []) ∧ Rows K H a es ∧ es.length ≤ 100 ∧ (∀ e ∈ es, WnE e) ∧ Wn s ∧ Wn t ∧
  (∀ x, earlyErr es s t = some x → RaisedN D x H E) ∧ (earlyErr es s t = none → ∀ ts, ts.Perm es → PyProof.Rows.sortedS (names ts) = true → (∀ x, lateErr ts s t = some x → RaisedN D x H E) ∧
    (lateErr ts s t = none → ∀ ps, Places ts s t ps → (8 < ps.length → RaisedN D (.count ps.length) H E) ∧ (ps.length ≤ 8 → ∀ H', (∀ c o, c ≠ n → H c = some o → H' c = some o) → NetAt C H' n s t ts ps → (∀ Hx : Hp, (∀ c o, (∀ xs, o ≠ .lst xs) → H' c = some o → Hx c = some o) → (∀ c o, H c = none → H' c = some o → Hx c = some o) → NetAt C Hx n s t ts ps) → Q .non H')))
theorem ok_net (T : Txt K mg) : FnOk P w K mg base (L2.CX P w) 4 T.f_Network_init T.d_Network_init ["self", "links", "start", "end"] (spNet K T.f_Network ⟨T.f_BadCount, T.f_BadName, T.f_DuplicateName, T.f_HasRound, T.f_UselessLink⟩) := by
  have G_BadCount_init : FnOk P w K mg base CX0 1 T.f_BadCount_init T.d_BadCount_init ["self", "count"] (spErr "count" T.f_BadCount) := ok_eBadCount T
  have GX_check_ends : FnOk P w K mg base (L2.CX P w) 3 T.f_check_ends T.d_check_ends ["start", "end"] (spEnds T.f_BadName T.f_DuplicateName) := ok_ends T
  have GX_check_names : FnOk P w K mg base (L2.CX P w) 3 T.f_check_names T.d_check_names ["links"] (spNames K T.f_BadName T.f_DuplicateName) := ok_names T
  have GX_check_rounds : FnOk P w K mg base (L2.CX P w) 3 T.f_check_rounds T.d_check_rounds ["table"] (spRounds T.f_HasRound) := ok_rounds T
  have GX_check_use : FnOk P w K mg base (L2.CX P w) 3 T.f_check_use T.d_check_use ["table", "start", "end"] (spUse T.f_UselessLink) := ok_use T
  have G_ordered_places : FnOk P w K mg base CX0 1 T.f_ordered_places T.d_ordered_places ["table", "start", "end"] spPlaces := ok_places T
  have G_places_behind : FnOk P w K mg base CX0 1 T.f_places_behind T.d_places_behind ["table", "first"] spBehind := ok_behind T
  refine T.F_Network_init.okX sc_Network_init (fun vs H Q E h => ?_) (fun cdv A outer s H vs Q E hr h => ?_)
  · obtain ⟨n, dx, a, es, s, t, rfl, _⟩ := h
    rfl
  · obtain ⟨n, dx, a, es, s, t, rfl, hn, hrw, hfew, hw, ws, wt, k1, k2⟩ := h
    refine ⟨_, (pss_cons (ps_if (pt_not (pt_chain op_le op_le pe_int (pe_callB call_len_seq (by rfl) T.n_len (by decide +kernel) (pa_cons (pv 1) pa_nil)) (ClX.pe_cval (pe_glob (v := .ref T.f_Network) rfl T.m_Network rfl))))
      (pss_one (ps_raise rfl (takes_of rfl rfl rfl rfl) (pmk_oex T.ox_BadCount T.ix_BadCount T.tx_BadCount G_BadCount_init (hr.mono (by decide)) T.b_BadCount_init .nil pass0 rfl T.m_BadCount (pa_cons (pe_callB call_len_seq (by rfl) T.n_len (by decide +kernel) (pa_cons (pv 1) pa_nil)) pa_nil))))
      pss_nil)
    (pss_cons (ps_expr (pe_call GX_check_ends (hr.mono (by decide)) rfl T.m_check_ends T.F_check_ends.kp T.b_check_ends .nil (passX (takes_of rfl rfl rfl rfl)) (pa_cons (pv 2) (pa_cons (pv 3) pa_nil))))
    (pss_cons (ps_expr (pe_call GX_check_names (hr.mono (by decide)) rfl T.m_check_names T.F_check_names.kp T.b_check_names .nil (passX (takes_of rfl rfl rfl rfl)) (pa_cons (pv 1) pa_nil)))
    (pss_cons (ps_set (i := 4) sc_Network_init.nd rfl (Or.inr rfl) (pe_dc (own := [("name", 7), ("tail", 8), ("head", 9)]) (g := gSeq K 3 (gCons (gName 7) (gCons (gName 8) (gCons (gName 9) gNil)))) (tt := tYes) rfl sc_Network_init.nd (pi_seq (pv 1)) (blkOk_by (N := ["self", "links", "start", "end", "given", "table", "places", "name", "tail", "head", "place"]) (sc := defScope s_Network_init) (by decide +kernel)) (fun _ _ _ _ _ => (pg_seq rfl (pgs_cons (pg_name (i := 7) sc_Network_init.nd rfl (Or.inl rfl)) (pgs_cons (pg_name (i := 8) sc_Network_init.nd rfl (Or.inl rfl)) (pgs_cons (pg_name (i := 9) sc_Network_init.nd rfl (Or.inl rfl)) pgs_nil))))) (fun _ _ _ _ _ => pts_nil) (fun _ _ _ _ _ => (pv 7)) (fun _ _ _ _ _ => (pe_tup (pa_cons (pv 8) (pa_cons (pv 9) pa_nil))))))
    (pss_cons (ps_set (i := 5) sc_Network_init.nd rfl (Or.inr rfl) (pe_dc (own := [("name", 7)]) (g := gName 7) (tt := tYes) rfl sc_Network_init.nd (pi_list (pe_callB (call_sortedD rfl) (by rfl) T.n_sorted (by decide +kernel) (pa_cons (pv 4) pa_nil))) (blkOk_by (N := ["self", "links", "start", "end", "given", "table", "places", "name", "tail", "head", "place"]) (sc := defScope s_Network_init) (by decide +kernel)) (fun _ _ _ _ _ => pg_name (i := 7) sc_Network_init.nd rfl (Or.inl rfl)) (fun _ _ _ _ _ => pts_nil) (fun _ _ _ _ _ => (pv 7)) (fun _ _ _ _ _ => (pe_dget (hu_of hr) (pv 4) (pv 7) (fun _ _ => rfl)))))
    (pss_cons (ps_expr (pe_call GX_check_rounds (hr.mono (by decide)) rfl T.m_check_rounds T.F_check_rounds.kp T.b_check_rounds .nil (passX (takes_of rfl rfl rfl rfl)) (pa_cons (pv 5) pa_nil)))
    (pss_cons (ps_expr (pe_call GX_check_use (hr.mono (by decide)) rfl T.m_check_use T.F_check_use.kp T.b_check_use .nil (passX (takes_of rfl rfl rfl rfl)) (pa_cons (pv 5) (pa_cons (pv 2) (pa_cons (pv 3) pa_nil)))))
    (pss_cons (ps_set (i := 6) sc_Network_init.nd rfl (Or.inl rfl) (pe_call G_ordered_places (hr.mono (by decide)) rfl T.m_ordered_places T.F_ordered_places.kp T.b_ordered_places .nil pass0 (pa_cons (pv 5) (pa_cons (pv 2) (pa_cons (pv 3) pa_nil)))))
    (pss_cons (ps_if (pt_cmpR op_gt (pe_callB call_len_seq (by rfl) T.n_len (by decide +kernel) (pa_cons (pv 6) pa_nil)) (ClX.pe_cval (pe_glob (v := .ref T.f_Network) rfl T.m_Network rfl)) (nomark _))
      (pss_one (ps_raise rfl (takes_of rfl rfl rfl rfl) (pmk_oex T.ox_BadCount T.ix_BadCount T.tx_BadCount G_BadCount_init (hr.mono (by decide)) T.b_BadCount_init .nil pass0 rfl T.m_BadCount (pa_cons (pe_callB call_len_seq (by rfl) T.n_len (by decide +kernel) (pa_cons (pv 6) pa_nil)) pa_nil))))
      pss_nil)
    (pss_cons (ps_fld (pv 0) (pv 2) rfl)
    (pss_cons (ps_fld (pv 0) (pv 3) rfl)
    (pss_cons (ps_fld (pv 0) (pv 5) rfl)
    (pss_cons (ps_fld (pv 0) (pv 6) rfl)
    (pss_one (ps_fld (pv 0) (pe_dc (own := [("place", 10)]) (g := gName 10) (tt := tYes) rfl sc_Network_init.nd (pi_tup (pv 6)) (blkOk_by (N := ["self", "links", "start", "end", "given", "table", "places", "name", "tail", "head", "place"]) (sc := defScope s_Network_init) (by decide +kernel)) (fun _ _ _ _ _ => pg_name (i := 10) sc_Network_init.nd rfl (Or.inl rfl)) (fun _ _ _ _ _ => pts_nil) (fun _ _ _ _ _ => (pv 10)) (fun _ _ _ _ _ => (pe_call G_places_behind (hr.mono (by decide)) rfl T.m_places_behind T.F_places_behind.kp T.b_places_behind .nil pass0 (pa_cons (pv 5) (pa_cons (pv 10) pa_nil))))) rfl))))))))))))))), ?_⟩
    obtain ⟨qs, hq, hp⟩ := hrw
    have hql : (qs.map V.ref).length = es.length := by rw [List.length_map, hp.length]
    have hq' : SqL K H a (qs.map V.ref) ∨ SqT K H a (qs.map V.ref) := hq
    have e1 : ¬ (1 ≤ es.length ∧ es.length ≤ 10) → RaisedN ⟨T.f_BadCount, T.f_BadName, T.f_DuplicateName, T.f_HasRound, T.f_UselessLink⟩ (.count es.length) H E := fun h => k1 _ (by unfold earlyErr; rw [if_neg h])
    refine ⟨_, rfl, a, _, rfl, hq, _, _, rfl, rfl, _, rfl, ite2 (fun g1 => ?_) fun g1 => ?_⟩
    · have g1' : (1 : Int) ≤ (qs.map V.ref).length := of_decide_eq_true g1
      refine ⟨T.f_Network, _, _, _, rfl, T.cr_Network, T.cv_Network_MOST_LINKS, _, _, rfl, rfl, _, rfl, ite2 (fun g2 => ?_) fun g2 => ?_⟩
      · have g2' : ¬ ((qs.map V.ref).length : Int) ≤ 10 := by simpa using g2
        refine ⟨_, rfl, a, _, rfl, hq, (by show 1 ≤ 1000; decide), fun a na => ?_⟩
        refine ⟨a, .int (qs.map V.ref).length, rfl, upd_same, fun d H' nd ne e => ⟨rfl, d, [("count", .int (qs.map V.ref).length)], ?_⟩⟩
        refine raise_asks na ?_ d H' nd ne e
        rw [hql]
        exact e1 (by omega)
      · have g2' : ((qs.map V.ref).length : Int) ≤ 10 := by simpa using g2
        have hlen : 1 ≤ es.length ∧ es.length ≤ 10 := by rw [hql] at g1' g2'; omega
        have kn : ∀ z, bad [s, t] = some z → Raised H "name" (.str z) T.f_BadName E := fun z hz => k1 (.name z) (by unfold earlyErr; rw [if_pos hlen, hz])
        have kt : bad [s, t] = none → s = t → Raised H "name" (.str t) T.f_DuplicateName E := fun hb e => k1 (.twice t) (by unfold earlyErr; rw [if_pos hlen, hb]; exact if_pos e)
        refine ⟨_, rfl, _, rfl, s, t, rfl, ws, wt, kn, kt, fun hb hne H1 s1 => ?_⟩
        have kn2 : ∀ z, nmErr [] es = some (true, z) → Raised H1 "name" (.str z) T.f_BadName E := fun z hz => Raised.on (k1 (.name z) (by unfold earlyErr; rw [if_pos hlen, hb]; show (if s = t then _ else _) = _; rw [if_neg hne, hz])) s1
        have kt2 : ∀ z, nmErr [] es = some (false, z) → Raised H1 "name" (.str z) T.f_DuplicateName E := fun z hz => Raised.on (k1 (.twice z) (by unfold earlyErr; rw [if_pos hlen, hb]; show (if s = t then _ else _) = _; rw [if_neg hne, hz])) s1
        refine ⟨_, rfl, a, es, rfl, Rows.on ⟨qs, hq, hp⟩ s1, hfew, hw, kn2, kt2, fun hnm H2 s2 => ?_⟩
        have he0 : earlyErr es s t = none := by unfold earlyErr; rw [if_pos hlen, hb]; show (if s = t then _ else _) = _; rw [if_neg hne, hnm]
        have s02 := s1.trans s2
        have nde : (names es).Nodup := nm_nodup hnm
        refine ⟨_, rfl, a, rfl, ?_⟩
        refine dc_seq (K := K) (H0 := H) (xs := qs.map V.ref) hq s02 (fun D i H' => Same H H' ∧ ∃ kvs, H' D = some (.dK kvs) ∧ Paired (EntOk H') kvs (es.take i)) (fun D hD => ⟨s02.trans (same_upd hD), [], upd_same, .nil⟩) (fun D i H' h => h.1) ?_ ?_
        · rintro D hD i x H' hi ⟨s3, kvs, h1, h2⟩
          obtain ⟨q, hqi, rfl⟩ : ∃ q, qs[i]? = some q ∧ x = V.ref q := by
            rw [List.getElem?_map] at hi
            cases e : qs[i]? with
            | none => rw [e] at hi; cases hi
            | some q => rw [e] at hi; exact ⟨q, rfl, (Option.some.inj hi).symm⟩
          obtain ⟨e, hei, hr⟩ := L2.paired_get hp hqi
          have nDH : H D = none := s02.free hD
          have hkl : kvs.length ≤ 10 := by rw [h2.length, List.length_take]; omega
          refine seq_ask (hr.on s3) rfl ⟨_, _, rfl, _, _, rfl, _, _, rfl, rfl, rfl, _, rfl, _, rfl, _, rfl, by show 2 ≤ sizeLine; decide, fun U nU => ?_⟩
          have hU : Same H' (upd H' U (.tup [V.str e.2.1, .str e.2.2])) := same_upd nU
          have nUD : U ≠ D := fun z => by rw [z, h1] at nU; cases nU
          refine ⟨kvs, .inr e.1, rfl, hU _ _ h1, small1000 (by omega), same_mut (s3.trans hU) nDH, _, upd_same, ?_⟩
          have hs := stored_ok (n := e.1) (e := e.2) (q := U) (paired_on (fun _ _ z => z.on fun c o hc => hU _ _ hc) h2) (by rw [upd_same])
          have hnm2 : e.1 ∉ names (es.take i) := by
            have nd2 := nde
            rw [← List.take_append_drop i es, drop_at hei] at nd2
            unfold names at nd2
            rw [List.map_append, List.map_cons] at nd2
            intro hm
            exact (List.nodup_append.mp nd2).2.2 _ hm _ List.mem_cons_self rfl
          have e2 : stored (es.take i) e.1 e.2 = es.take (i + 1) := by unfold stored; rw [if_neg hnm2, take_more hei]
          rw [e2] at hs
          exact paired_on (fun _ _ z => z.on fun c o hc => by rw [upd_ne (fun z => by rw [z, hU _ _ h1] at hc; cases hc)]; exact hc) hs
        · rintro D H3 hD ⟨s3, kvs, h1, h2⟩
          rw [hql, List.take_length] at h2
          have nDH : H D = none := s02.free hD
          refine ⟨_, rfl, D, kvs, names es, rfl, .inl h1, keys_inr h2, by unfold names; rw [List.length_map]; omega, fun ys L hpm hso nL => ?_⟩
          refine ⟨L, rfl, ⟨_, SqL.of upd_same⟩, fun D2 hD2 => ?_⟩
          have hL3 : Same H3 (upd H3 L (.lst (ys.map V.str))) := same_upd nL
          have hLs : (upd H3 L (.lst (ys.map V.str))) L = some (.lst (ys.map V.str)) := upd_same
          generalize upd H3 L (.lst (ys.map V.str)) = H4 at hL3 hLs hD2 ⊢
          have s04 := s3.trans hL3
          have nD2H : H D2 = none := s04.free hD2
          have hpt : (tabOf es ys).Perm es := tab_perm nde hpm
          have hnt : names (tabOf es ys) = ys := tab_names es ys
          have hlt : (tabOf es ys).length = es.length := hpt.length_eq
          refine dc_list (K := K) (a := L) (xs := ys.map V.str) (fun i H' => Same H4 H' ∧ ∃ kvs2, H' D2 = some (.dK kvs2) ∧ Paired (EntOk H') kvs2 ((tabOf es ys).take i)) ⟨same_upd hD2, [], upd_same, .nil⟩ (fun i H' _ h => SqL.of (h.1 _ _ hLs)) ?_ ?_
          · rintro i x H' hi ⟨s5, kvs2, g1, g2⟩
            obtain ⟨m, hm, rfl⟩ : ∃ m, ys[i]? = some m ∧ x = V.str m := by
              rw [List.getElem?_map] at hi
              cases e : ys[i]? with
              | none => rw [e] at hi; cases hi
              | some q => rw [e] at hi; exact ⟨q, rfl, (Option.some.inj hi).symm⟩
            have hme : m ∈ names es := hpm.mem_iff.mp (List.mem_of_getElem? hm)
            rcases val_found (n := m) h2 with ⟨z1, z2⟩ | ⟨e, p, z1, z2, z3⟩
            · have := found_some (es := es) (n := m)
              rw [z1] at this
              exact absurd hme (of_decide_eq_false this.symm)
            · have hk5 : H' D = some (.dK kvs) := s5 _ _ (hL3 _ _ h1)
              have het : (tabOf es ys)[i]? = some (m, e) := by unfold tabOf; rw [List.getElem?_map, hm]; show some (m, (found es m).getD _) = _; rw [z1]; rfl
              have hkl : kvs2.length ≤ 10 := by rw [g2.length, List.length_take]; omega
              refine ⟨rfl, _, rfl, _, rfl, _, rfl, D, .ref p, rfl, ?_, kvs2, .inr m, rfl, g1, small1000 (by omega), ?_⟩
              · rw [← z2]; exact DGet.k (k := .inr m) hk5
              · refine ⟨same_mut s5 hD2, _, upd_same, ?_⟩
                have hs := stored_ok (n := m) (e := e) (q := p) g2 (s5 _ _ (hL3 _ _ z3))
                have hnm2 : m ∉ names ((tabOf es ys).take i) := by
                  have nd2 : ys.Nodup := hpm.nodup_iff.mpr nde
                  have e1 : names ((tabOf es ys).take i) = ys.take i := by unfold names tabOf; rw [← List.map_take, List.map_map]; exact List.map_id _
                  rw [e1]
                  rw [← List.take_append_drop i ys, drop_at hm] at nd2
                  intro hm
                  exact (List.nodup_append.mp nd2).2.2 _ hm _ List.mem_cons_self rfl
                have e2 : stored ((tabOf es ys).take i) m e = (tabOf es ys).take (i + 1) := by unfold stored; rw [if_neg hnm2, take_more het]
                rw [e2] at hs
                exact paired_on (fun _ _ z => z.on fun c o hc => by rw [upd_ne (fun z => by rw [z, g1] at hc; cases hc)]; exact hc) hs
          · rintro H5 ⟨s5, kvs2, g1, g2⟩
            rw [List.length_map, show ys.length = (tabOf es ys).length from by unfold tabOf; rw [List.length_map], List.take_length] at g2
            have s05 := s04.trans s5
            obtain ⟨kr, k3⟩ := k2 he0 (tabOf es ys) hpt (by rw [hnt]; exact hso)
            generalize tabOf es ys = ts at hpt hnt hlt g2 kr k3
            have ndt : (names ts).Nodup := by rw [hnt]; exact hpm.nodup_iff.mpr nde
            have ht20 : ts.length ≤ 20 := by omega
            have kr1 : ∀ z, rdErr ts = some z → RaisedX D2 H5 "name" (.str z) T.f_HasRound E := fun z hz => Raised.but (kr (.round z) (by unfold lateErr; rw [hz])) s05 nD2H
            refine ⟨_, rfl, D2, ts, rfl, ⟨kvs2, g1, g2⟩, by omega, kr1, fun hrd H6 s6 => ?_⟩
            have s06 := s05.trans s6
            have kr2 : ∀ z, useErr ts s t = some z → RaisedX D2 H6 "name" (.str z) T.f_UselessLink E := fun z hz => Raised.but (kr (.useless z) (by unfold lateErr; rw [hrd]; show (match useErr ts s t with | some z => _ | none => _) = _; rw [hz])) s06 nD2H
            have dt6 : DictAt H6 D2 ts := DictAt.same ⟨kvs2, g1, g2⟩ s6
            refine ⟨_, rfl, _, rfl, _, rfl, D2, ts, s, t, rfl, dt6, ndt, by omega, kr2, fun hus H7 s7 => ?_⟩
            have s07 := s06.trans s7
            have k4 := k3 (by unfold lateErr; rw [hrd]; show (match useErr ts s t with | some z => _ | none => _) = _; rw [hus])
            refine ⟨_, rfl, _, rfl, _, rfl, D2, ts, s, t, rfl, dt6.same s7, ht20, fun pp ps H8 npp s8 hpp hps => ?_⟩
            obtain ⟨k5, k6⟩ := k4 ps hps
            have s08 := s07.trans s8
            have hpl : (ps.map V.str).length = ps.length := List.length_map _
            refine ⟨_, rfl, pp, _, rfl, .inr (SqT.of hpp), T.f_Network, _, _, _, rfl, T.cr_Network, T.cv_Network_MOST_PLACES, _, _, rfl, rfl, _, rfl, ite2 (fun g8 => ?_) fun g8 => ?_⟩
            · have g8' : (8 : Int) < ((ps.map V.str).length : Nat) := of_decide_eq_true g8
              refine ⟨_, rfl, pp, _, rfl, .inr (SqT.of hpp), (by show 1 ≤ 1000; decide), fun a na => ?_⟩
              refine ⟨a, .int (ps.map V.str).length, rfl, upd_same, fun d H' nd ne e => ⟨rfl, d, [("count", .int (ps.map V.str).length)], ?_⟩⟩
              refine raise_asks na ?_ d H' nd ne e
              rw [hpl] at g8' ⊢
              exact Raised.on (k5 (by omega)) s08
            · have g8' : ps.length ≤ 8 := by
                have : ¬ (8 : Int) < ((ps.map V.str).length : Nat) := fun q => g8 (decide_eq_true q)
                rw [hpl] at this
                omega
              have hn8 := s08 _ _ hn
              refine ⟨_, rfl, _, rfl, n, T.f_Network, dx, _, rfl, hn8, T.cl_Network, T.na_Network_start, by show 0 < 1000; decide, ?_⟩
              refine ⟨_, rfl, _, rfl, n, T.f_Network, dx, _, rfl, upd_same, T.cl_Network, T.na_Network_end, by show 1 < 1000; decide, ?_⟩
              refine ⟨_, rfl, _, rfl, n, T.f_Network, dx, _, rfl, upd_same, T.cl_Network, T.na_Network_links, by show 2 < 1000; decide, ?_⟩
              refine ⟨_, rfl, _, rfl, n, T.f_Network, dx, _, rfl, upd_same, T.cl_Network, T.na_Network_places, by show 3 < 1000; decide, ?_⟩
              generalize hHa : upd (upd (upd (upd H8 n _) n _) n _) n _ = Ha
              have hna : Ha n = some (.ins T.f_Network dx [("_start", .str s), ("_end", .str t), ("_links", .ref D2), ("_places", .ref pp)]) := by rw [← hHa]; exact upd_same
              have hka : ∀ c, c ≠ n → Ha c = H8 c := fun c cn => by rw [← hHa, upd_ne cn, upd_ne cn, upd_ne cn, upd_ne cn]
              have nn : ∀ {c : Addr} {o : HO}, H8 c = some o → (∀ C dx fs, o ≠ .ins C dx fs) → c ≠ n := fun {c o} hc hne z => by rw [z, hn8] at hc; cases hc; exact hne _ _ _ rfl
              have dt8 := (dt6.same s7).same s8
              have dta : DictAt Ha D2 ts := dt8.on (fun c o hc => by rw [hka c (nn hc fun _ _ _ z => nomatch z)]; exact hc) fun kvs hc => by rw [hka D2 (nn hc fun _ _ _ z => nomatch z)]; exact hc
              have hpa : Ha pp = some (.tup (ps.map V.str)) := by rw [hka pp (nn hpp fun _ _ _ z => nomatch z)]; exact hpp
              refine ⟨_, rfl, pp, rfl, ⟨_, SqT.of hpa⟩, fun D3 hD3 => ?_⟩
              have ndp : ps.Nodup := places_nodup hps hne
              refine dc_tup (K := K) (a := pp) (xs := ps.map V.str) (fun i H' => Same Ha H' ∧ ∃ kvs3, H' D3 = some (.dK kvs3) ∧ Paired (BehOk ts H') kvs3 (ps.take i) ∧ ∀ kv ∈ kvs3, ∀ l, kv.2 = V.ref l → H l = none) ⟨same_upd hD3, [], upd_same, .nil, fun kv hkv => by cases hkv⟩ (fun i H' _ h => SqT.of (h.1 _ _ hpa)) ?_ ?_
              · rintro i x H' hi ⟨s9, kvs3, g1, g2, g3⟩
                obtain ⟨m, hm, rfl⟩ : ∃ m, ps[i]? = some m ∧ x = V.str m := by
                  rw [List.getElem?_map] at hi
                  cases e : ps[i]? with
                  | none => rw [e] at hi; cases hi
                  | some q => rw [e] at hi; exact ⟨q, rfl, (Option.some.inj hi).symm⟩
                have hkl : kvs3.length ≤ 10 := by rw [g2.length, List.length_take]; omega
                refine ⟨rfl, _, rfl, _, rfl, _, rfl, D2, ts, m, rfl, (dta.same s9).rd, by omega, fun l F H10 nl s10 hl ndF hF => ?_⟩
                refine ⟨kvs3, .inr m, rfl, s10 _ _ g1, small1000 (by omega), same_mut (s9.trans s10) hD3, _, upd_same, ?_⟩
                have hnm : m ∉ ps.take i := by
                  have nd2 := ndp
                  rw [← List.take_append_drop i ps, drop_at hm] at nd2
                  intro hm
                  exact (List.nodup_append.mp nd2).2.2 _ hm _ List.mem_cons_self rfl
                rw [beh_put g2 hnm, take_more hm]
                have up : ∀ c o, H10 c = some (.lst o) → (upd H10 D3 (.dK (kvs3 ++ [(.inr m, V.ref l)]))) c = some (.lst o) := fun c o hc => by rw [upd_ne (fun z => by rw [z, s10 _ _ g1] at hc; cases hc)]; exact hc
                refine ⟨paired_snoc ⟨rfl, l, F, rfl, up _ _ hl, hF⟩ (paired_on (fun _ _ z => z.on fun c o hc => up _ _ (s10 _ _ hc)) g2), fun kv hkv l' e => ?_⟩
                rcases List.mem_append.mp hkv with hkv | hkv
                · exact g3 kv hkv l' e
                · rw [List.mem_singleton.mp hkv] at e
                  obtain rfl : l = l' := V.ref.inj e
                  cases q : H l with
                  | none => rfl
                  | some o =>
                    by_cases en : l = n
                    · rw [en, s9 _ _ hna] at nl; cases nl
                    · rw [s9 _ _ ((hka l en).trans (s08 _ _ q))] at nl; cases nl
              · rintro H9 ⟨s9, kvs3, g1, g2, g3⟩
                rw [List.length_map, List.take_length] at g2
                have hn9 := s9 _ _ hna
                refine ⟨_, rfl, n, T.f_Network, dx, _, rfl, hn9, T.cl_Network, T.na_Network_behind, by show 4 < 1000; decide, ?_⟩
                have up : ∀ c o, (∀ C dx fs, o ≠ .ins C dx fs) → H9 c = some o → (upd H9 n (HO.ins T.f_Network dx (putF "_behind" (V.ref D3) [("_start", .str s), ("_end", .str t), ("_links", .ref D2), ("_places", .ref pp)]))) c = some o := fun c o hne hc => by
                  rw [upd_ne (fun z => by rw [z, hn9] at hc; cases hc; exact hne _ _ _ rfl)]; exact hc
                have hds : DictAt (upd H9 n (HO.ins T.f_Network dx (putF "_behind" (V.ref D3) [("_start", .str s), ("_end", .str t), ("_links", .ref D2), ("_places", .ref pp)]))) D2 ts := (dta.same s9).on (fun c o hc => up _ _ (fun _ _ _ z => nomatch z) hc) fun kvs hc => up _ _ (fun _ _ _ z => nomatch z) hc
                refine k6 g8' _ (fun c o cn hc => ?_) ⟨dx, D2, pp, D3, kvs3, upd_same, ?_, ?_, ?_, ?_⟩ fun Hx x1 x2 => ⟨dx, D2, pp, D3, kvs3, x1 _ _ (fun _ z => nomatch z) upd_same, hds.on (fun c o hc => x1 _ _ (fun _ z => nomatch z) hc) (fun kvs hc => x1 _ _ (fun _ z => nomatch z) hc), x1 _ _ (fun _ z => nomatch z) (up _ _ (fun _ _ _ z => nomatch z) (s9 _ _ hpa)), x1 _ _ (fun _ z => nomatch z) (up _ _ (fun _ _ _ z => nomatch z) g1),
                  paired_mem (fun kv q hkv z => let ⟨h1, l, F, h2, h3, h4⟩ := z; ⟨h1, l, F, h2, x2 _ _ (g3 kv hkv l h2) (up _ _ (fun _ _ _ z => nomatch z) h3), h4⟩) g2⟩
                · rw [upd_ne cn]
                  exact s9 _ _ (by rw [hka c cn]; exact s08 _ _ hc)
                · exact (dta.same s9).on (fun c o hc => up _ _ (fun _ _ _ z => nomatch z) hc) fun kvs hc => up _ _ (fun _ _ _ z => nomatch z) hc
                · exact up _ _ (fun _ _ _ z => nomatch z) (s9 _ _ hpa)
                · exact up _ _ (fun _ _ _ z => nomatch z) g1
                · exact paired_on (fun _ _ z => z.on fun c o hc => up _ _ (fun _ _ _ z => nomatch z) hc) g2
    · have g1' : ¬ (1 : Int) ≤ (qs.map V.ref).length := fun q => g1 (decide_eq_true q)
      refine ⟨_, rfl, iteT ?_⟩
      refine ⟨_, rfl, a, _, rfl, hq, (by show 1 ≤ 1000; decide), fun a na => ?_⟩
      refine ⟨a, .int (qs.map V.ref).length, rfl, upd_same, fun d H' nd ne e => ⟨rfl, d, [("count", .int (qs.map V.ref).length)], ?_⟩⟩
      refine raise_asks na ?_ d H' nd ne e
      rw [hql]
      exact e1 (by omega)
end

theorem nf_places {s t : Str} {d p b : Addr} : ([("_start", V.str s), ("_end", .str t), ("_links", .ref d), ("_places", .ref p), ("_behind", .ref b)] : List (Str × V)).lookup ("_places" : Str) = some (.ref p) := by
  rfl

theorem NetAt.same {C : Addr} {H H' : Hp} {n : Addr} {s t : Str} {ts : List Ent} {ps : List Str} (h : NetAt C H n s t ts ps) (sm : Same H H') : NetAt C H' n s t ts ps := by
  obtain ⟨dx, d, p, b, kvs, h1, h2, h3, h4, h5⟩ := h
  exact ⟨dx, d, p, b, kvs, sm _ _ h1, h2.same sm, sm _ _ h3, sm _ _ h4, paired_on (fun _ _ z => z.on fun c o hc => sm _ _ hc) h5⟩

section
variable {P : Program} {w : World} {K : PySem.W.Frag} {mg : Str → Option Value} {base : Heap}
def spNStart (C : Addr) : Sp := fun vs H Q _ => ∃ (n : Addr) (s t : Str) (ts : List Ent) (ps : List Str), vs = [.ref n] ∧ NetAt C H n s t ts ps ∧ Q (.str s) H
theorem ok_nstart (T : Txt K mg) : FnOk P w K mg base CX0 1 T.f_Network_start T.d_Network_start ["self"] (spNStart T.f_Network) := by
  refine T.F_Network_start.ok sc_Network_start (fun vs H Q E h => ?_) (fun cdv A outer s H vs Q E hr h => ?_)
  · obtain ⟨n, s, t, ts, ps, rfl, _⟩ := h
    rfl
  · obtain ⟨n, s, t, ts, ps, rfl, ⟨dx, d, pp, b, kvs, h1, h2, h3, h4, h5⟩, k⟩ := h
    refine ⟨_, (pss_one (ps_ret (pe_fld (pv 0) rfl))), ?_⟩
    exact ⟨_, rfl, n, T.f_Network, dx, _, .str s, rfl, h1, T.cl_Network, T.na_Network_start, rfl, k⟩
def spNEnd (C : Addr) : Sp := fun vs H Q _ => ∃ (n : Addr) (s t : Str) (ts : List Ent) (ps : List Str), vs = [.ref n] ∧ NetAt C H n s t ts ps ∧ Q (.str t) H
theorem ok_nend (T : Txt K mg) : FnOk P w K mg base CX0 1 T.f_Network_end T.d_Network_end ["self"] (spNEnd T.f_Network) := by
  refine T.F_Network_end.ok sc_Network_end (fun vs H Q E h => ?_) (fun cdv A outer s H vs Q E hr h => ?_)
  · obtain ⟨n, s, t, ts, ps, rfl, _⟩ := h
    rfl
  · obtain ⟨n, s, t, ts, ps, rfl, ⟨dx, d, pp, b, kvs, h1, h2, h3, h4, h5⟩, k⟩ := h
    refine ⟨_, (pss_one (ps_ret (pe_fld (pv 0) rfl))), ?_⟩
    exact ⟨_, rfl, n, T.f_Network, dx, _, .str t, rfl, h1, T.cl_Network, T.na_Network_end, rfl, k⟩
end

theorem nf_links {s t : Str} {d p b : Addr} : ([("_start", V.str s), ("_end", .str t), ("_links", .ref d), ("_places", .ref p), ("_behind", .ref b)] : List (Str × V)).lookup ("_links" : Str) = some (.ref d) := rfl

/-! ### a network's links by name -/
section
variable {P : Program} {w : World} {K : PySem.W.Frag} {mg : Str → Option Value} {base : Heap}
def spNGet (C D : Addr) : Sp := fun vs H Q E => ∃ (n : Addr) (s t : Str) (ts : List Ent) (ps : List Str) (z : Str), vs = [.ref n, .str z] ∧ NetAt C H n s t ts ps ∧
  (∀ e p, found ts z = some e → H p = some (.tup [.str e.1, .str e.2]) → Q (.ref p) H) ∧ (found ts z = none → Raised H "name" (.str z) D E)
theorem ok_nget (T : Txt K mg) : FnOk P w K mg base (L2.CX P w) 3 T.f_Network_getitem T.d_Network_getitem ["self", "name"] (spNGet T.f_Network T.f_UnknownName) := by
  have G_UnknownName_init : FnOk P w K mg base CX0 1 T.f_UnknownName_init T.d_UnknownName_init ["self", "name"] (spErr "name" T.f_UnknownName) := ok_eUnknownName T
  refine T.F_Network_getitem.okX sc_Network_getitem (fun vs H Q E h => ?_) (fun cdv A outer s H vs Q E hr h => ?_)
  · obtain ⟨n, s, t, ts, ps, z, rfl, _⟩ := h
    rfl
  · obtain ⟨n, s, t, ts, ps, z, rfl, ⟨dx, d, pp, b, kvs, h1, ⟨kvs2, h2, hp⟩, h3, h4, h5⟩, k, k2⟩ := h
    refine ⟨_, (pss_cons (ps_if (pt_cmp (pc_dnotin (hu_of hr) (pv 1) (pe_fld (pv 0) rfl)))
      (pss_one (ps_raise rfl (takes_of rfl rfl rfl rfl) (pmk_oex T.ox_UnknownName T.ix_UnknownName T.tx_UnknownName G_UnknownName_init (hr.mono (by decide)) T.b_UnknownName_init .nil pass0 rfl T.m_UnknownName (pa_cons (pv 1) pa_nil))))
      pss_nil)
    (pss_one (ps_ret (pe_dget (hu_of hr) (pe_fld (pv 0) rfl) (pv 1) (fun _ _ => rfl))))), ?_⟩
    refine ⟨_, rfl, _, rfl, n, T.f_Network, dx, _, _, rfl, h1, T.cl_Network, T.na_Network_links, nf_links, ?_⟩
    refine ⟨d, valV kvs2 (.inr z : Key), rfl, DGet.k (k := .inr z) h2, ?_⟩
    rcases val_found (n := z) hp with ⟨e1, e2⟩ | ⟨e, p, e1, e2, hpp⟩
    · rw [e2]
      refine ⟨_, rfl, iteT ?_⟩
      refine ⟨_, rfl, (by show 1 ≤ 1000; decide), fun a na => ?_⟩
      refine ⟨a, .str z, rfl, upd_same, fun d H' nd ne e => ⟨rfl, d, [("name", .str z)], ?_⟩⟩
      exact raise_asks na (k2 e1) d H' nd ne e
    · rw [e2]
      refine ⟨_, rfl, iteF ?_⟩
      refine ⟨_, rfl, n, T.f_Network, dx, _, _, rfl, h1, T.cl_Network, T.na_Network_links, nf_links, _, rfl, d, .ref p, rfl, ?_, k e p e1 hpp⟩
      rw [← e2]
      exact DGet.k (k := .inr z) h2
def spNIn (C : Addr) : Sp := fun vs H Q _ => ∃ (n : Addr) (s t : Str) (ts : List Ent) (ps : List Str) (z : Str), vs = [.ref n, .str z] ∧ NetAt C H n s t ts ps ∧ Q (.bl (found ts z).isSome) H
theorem ok_nin (T : Txt K mg) : FnOk P w K mg base CX0 1 T.f_Network_contains T.d_Network_contains ["self", "name"] (spNIn T.f_Network) := by
  refine T.F_Network_contains.ok sc_Network_contains (fun vs H Q E h => ?_) (fun cdv A outer s H vs Q E hr h => ?_)
  · obtain ⟨n, s, t, ts, ps, z, rfl, _⟩ := h
    rfl
  · obtain ⟨n, s, t, ts, ps, z, rfl, ⟨dx, d, pp, b, kvs, h1, ⟨kvs2, h2, hp⟩, h3, h4, h5⟩, k⟩ := h
    refine ⟨_, (pss_one (ps_ret (pe_cmp (pc_din (hu_of hr) (pv 1) (pe_fld (pv 0) rfl))))), ?_⟩
    refine ⟨_, rfl, _, rfl, n, T.f_Network, dx, _, _, rfl, h1, T.cl_Network, T.na_Network_links, nf_links, ?_⟩
    refine ⟨d, valV kvs2 (.inr z : Key), rfl, DGet.k (k := .inr z) h2, ?_⟩
    rcases val_found (n := z) hp with ⟨e1, e2⟩ | ⟨e, p, e1, e2, hpp⟩
    · rw [e2]; rw [e1] at k; exact k
    · rw [e2]; rw [e1] at k; exact k
end

/-! ### links in the order of their names -/
theorem risen : ∀ (p : Str) (l : List Str), PyProof.Rows.risingS p l = true → (p :: l).Pairwise fun a b => a.cps.toList ≤ b.cps.toList
  | p, [], _ => List.pairwise_singleton _ _
  | p, x :: r, h => by
    have h1 : (!PySem.Spec.ltCps x.cps.toList p.cps.toList && PyProof.Rows.risingS x r) = true := h
    rw [Bool.and_eq_true, PyProof.Rows.ltCps_eq] at h1
    have le : p.cps.toList ≤ x.cps.toList := by
      have := h1.1
      rw [Bool.not_eq_true', decide_eq_false_iff_not] at this
      exact List.not_lt.mp this
    have ih := risen x r h1.2
    refine List.pairwise_cons.mpr ⟨fun y hy => ?_, ih⟩
    rcases List.mem_cons.mp hy with e | e
    · rw [e]; exact le
    · exact List.le_trans le ((List.pairwise_cons.mp ih).1 y e)
theorem sorted_pw : ∀ {l : List Str}, PyProof.Rows.sortedS l = true → l.Pairwise fun a b => a.cps.toList ≤ b.cps.toList
  | [], _ => .nil
  | p :: r, h => risen p r h
theorem sorted_one {l m : List Str} (p : l.Perm m) (hl : PyProof.Rows.sortedS l = true) (hm : PyProof.Rows.sortedS m = true) : l = m :=
  List.Perm.eq_of_pairwise (fun a b _ _ h1 h2 => Str.ext' (Array.toList_inj.mp (List.le_antisymm h1 h2))) (sorted_pw hl) (sorted_pw hm) p
/-! ### texts as data -/
theorem lay_map {α : Type} (f : α → PyData) : ∀ {xs : List α}, (∀ x ∈ xs, (f x).canLay0 = true) → PyData.canLayAll0 (xs.map f) = true
  | [], _ => rfl
  | x :: xs, h => by
    show ((f x).canLay0 && PyData.canLayAll0 (xs.map f)) = true
    rw [h x List.mem_cons_self, lay_map f fun y hy => h y (List.mem_cons_of_mem _ hy)]
    rfl
theorem depth_map {α : Type} (f : α → PyData) (n : Nat) : ∀ {xs : List α}, (∀ x ∈ xs, (f x).depth ≤ n) → PyData.depthAll (xs.map f) ≤ n
  | [], _ => Nat.zero_le _
  | x :: xs, h => by
    show max (f x).depth (PyData.depthAll (xs.map f)) ≤ n
    have a := h x List.mem_cons_self
    have b := depth_map f n fun y hy => h y (List.mem_cons_of_mem _ hy)
    omega
theorem lay_str {z : Str} (h : Wn z) : (PyData.str z).canLay0 = true := by
  simp only [PyData.canLay0, PyData.strOk]
  rw [Array.all_eq_true]
  intro i hi
  have := h.2 z.cps[i] (by simp)
  simp
  omega
theorem dep_str (z : Str) : (PyData.str z).depth = 0 := by simp [PyData.depth]
theorem shaped_l {α : Type} {f : α → PyData} {xs : List α} {n : Nat} (hn : n ≤ 60) (h1 : ∀ x ∈ xs, (f x).canLay0 = true) (h2 : ∀ x ∈ xs, (f x).depth ≤ n) : SeqAt.shaped (.list (xs.map f)) = true := by
  unfold SeqAt.shaped
  rw [show PyData.canLay0 (.list (xs.map f)) = true by simp only [PyData.canLay0]; exact lay_map f h1, Bool.true_and]
  refine decide_eq_true ?_
  have := depth_map f n h2
  simp only [PyData.depth]
  omega
theorem shaped_txts {zs : List Str} (h : ∀ z ∈ zs, Wn z) : SeqAt.shaped (.list (zs.map PyData.str)) = true := shaped_l (n := 0) (by decide) (fun z hz => lay_str (h z hz)) fun z _ => by rw [dep_str]; exact Nat.le_refl _
theorem shaped_nil : SeqAt.shaped (.list []) = true := shaped_txts (zs := []) fun z hz => by cases hz
theorem eqv_map {α : Type} [DecidableEq α] {f : α → PyData} (hf : ∀ a b, PyData.eqv (f a) (f b) = decide (a = b)) : ∀ xs ys : List α, PyData.eqvAll (xs.map f) (ys.map f) = decide (xs = ys)
  | [], [] => by simp [PyData.eqvAll]
  | [], y :: ys => by simp [PyData.eqvAll]
  | x :: xs, [] => by simp [PyData.eqvAll]
  | x :: xs, y :: ys => by
    rw [List.map_cons, List.map_cons, PyData.eqvAll, hf, eqv_map hf xs ys]
    by_cases h1 : x = y <;> by_cases h2 : xs = ys <;> simp [h1, h2]
theorem eqv_str (a b : Str) : PyData.eqv (.str a) (.str b) = decide (a = b) := by
  rw [PyData.eqv]
  by_cases h : a = b
  · subst h; simp
  · rw [decide_eq_false h]
    exact beq_false_of_ne h
theorem eqv_txts (xs ys : List Str) : PyData.eqv (.list (xs.map PyData.str)) (.list (ys.map PyData.str)) = decide (xs = ys) := by
  rw [PyData.eqv]
  exact eqv_map eqv_str xs ys
theorem dp_txts {K : PySem.W.Frag} {H : Hp} {l : Addr} {zs : List Str} (h : H l = some (.lst (zs.map V.str))) : Dp K H (.ref l) (.list (zs.map PyData.str)) := .lst (SqL.of h) (dp_strs zs)

/-! ### the places that some links touch -/
def headOf (ts : List Ent) (n : Str) : Str := ((found ts n).getD ("", "")).2
def tailOf (ts : List Ent) (n : Str) : Str := ((found ts n).getD ("", "")).1
def NamesT (H : Hp) (q : Addr) (ns : List Str) : Prop := H q = some (.tup (ns.map V.str))
theorem found_in {ts : List Ent} {n : Str} (h : n ∈ names ts) : ∃ e, found ts n = some e := by
  have := found_some (es := ts) (n := n)
  rw [decide_eq_true h] at this
  exact Option.isSome_iff_exists.mp this
section
variable {P : Program} {w : World} {K : PySem.W.Frag} {mg : Str → Option Value} {base : Heap}
def spStops (C : Addr) : Sp := fun vs H Q _ => ∃ (n q : Addr) (s t f : Str) (ts : List Ent) (ps ns : List Str), vs = [.ref n, .ref q, .str f] ∧ NetAt C H n s t ts ps ∧ NamesT H q ns ∧ ns.length ≤ 900 ∧ (∀ z ∈ ns, z ∈ names ts) ∧
  ∀ l H', Same H H' → H l = none → H' l = some (.lst ((f :: ns.map (headOf ts)).map V.str)) → Q (.ref l) H'
theorem ok_stops (T : Txt K mg) : FnOk P w K mg base CX0 5 T.f_stops T.d_stops ["network", "names", "first"] (spStops T.f_Network) := by
  have GX_Network_getitem : FnOk P w K mg base (L2.CX P w) 3 T.f_Network_getitem T.d_Network_getitem ["self", "name"] (spNGet T.f_Network T.f_UnknownName) := ok_nget T
  have G_Network_getitem := calm_of GX_Network_getitem
  refine T.F_stops.ok sc_stops (fun vs H Q E h => ?_) (fun cdv A outer s0 H vs Q E hr h => ?_)
  · obtain ⟨n, q, s, t, f, ts, ps, ns, rfl, _⟩ := h
    rfl
  · obtain ⟨n, q, s, t, f, ts, ps, ns, rfl, hn, hq, hl, hin, k⟩ := h
    refine ⟨_, (pss_one (ps_ret (pe_op op_cat (pe_lst (pa_cons (pv 2) pa_nil)) (pe_lc (own := [("name", 3)]) (g := gName 3) (tt := tYes) rfl sc_stops.nd (pi_tup (pv 1)) (blkOk_by (N := ["network", "names", "first", "name"]) (sc := defScope s_stops) (by decide +kernel)) (fun _ _ _ _ _ => pg_name (i := 3) sc_stops.nd rfl (Or.inl rfl)) (fun _ _ _ _ _ => pts_nil) (fun _ _ _ _ _ => (pe_ix (show IxR _ (rIxT K) from ix_tup) (pe_getO T.dn_Network_getitem G_Network_getitem (hr.mono (by decide)) T.b_Network_getitem (fun σ => passesAtOf pass0 σ) (pv 0) (pv 3) (fun _ _ => rfl)) pe_int (fun _ _ => rfl))))))), ?_⟩
    obtain ⟨dx, d0, pp, b, kvs, h1, _⟩ := id hn
    have hq : H q = some (.tup (ns.map V.str)) := hq
    refine ⟨_, rfl, by show 1 ≤ sizeLine; decide, fun F nF => ?_⟩
    have s1 := same_upd (o := .lst [V.str f]) nF
    have eF : (upd H F (.lst [V.str f])) F = some (.lst [V.str f]) := upd_same
    generalize upd H F (.lst [V.str f]) = H1 at s1 eF ⊢
    refine ⟨_, rfl, q, rfl, ⟨_, SqT.of (s1 _ _ hq)⟩, fun D nD => ?_⟩
    have hq1 := s1 _ _ hq
    have qD : q ≠ D := ne_of_none hq1 nD
    refine lc_tup (K := K) (a := q) (xs := ns.map V.str) (fun j H' => H' = upd H1 D (.lst (((ns.take j).map (headOf ts)).map V.str))) rfl (fun j H' _ e => by rw [e]; exact SqT.of (by rw [upd_ne qD]; exact hq1)) ?_ ?_
    · rintro j x H2 hj rfl
      rw [List.getElem?_map] at hj
      cases hz : ns[j]? with
      | none => rw [hz] at hj; cases hj
      | some z =>
        rw [hz] at hj
        obtain rfl := Option.some.inj hj
        have hjl := (List.getElem?_eq_some_iff.mp hz).1
        have s2 := s1.trans (same_upd (o := .lst (((ns.take j).map (headOf ts)).map V.str)) nD)
        obtain ⟨e, he⟩ := found_in (hin z (List.mem_of_getElem? hz))
        refine ⟨rfl, _, rfl, _, rfl, n, dx, _, rfl, s2 _ _ h1, n, s, t, ts, ps, z, rfl, hn.same s2, fun u pq hu hpq => ?_, fun hu => by rw [he] at hu; cases hu⟩
        obtain rfl : e = u := Option.some.inj (he.symm.trans hu)
        refine ⟨pq, _, 1, .str e.2, rfl, rfl, SqT.of hpq, atI_nat (j := 1) rfl, _, upd_same, small1000 (by rw [List.length_map, List.length_map, List.length_take]; omega), ?_⟩
        rw [take_more hz, List.map_append, List.map_append]
        have eh : headOf ts z = e.2 := by unfold headOf; rw [he]; rfl
        funext c
        by_cases ec : c = D
        · rw [ec, upd_same, upd_same, List.map_singleton, List.map_singleton, eh]
        · rw [upd_ne ec, upd_ne ec, upd_ne ec]
    rintro H2 rfl
    rw [List.length_map, List.take_length]
    have s2 := same_upd (o := .lst ((ns.map (headOf ts)).map V.str)) nD
    refine ⟨F, D, _, _, rfl, rfl, s2 _ _ eF, upd_same, Nat.le_of_lt (small1000 (by simp only [List.length_map, List.length_cons, List.length_nil]; omega)), fun L nL => ?_⟩
    exact k L _ ((s1.trans s2).trans (same_upd nL)) ((s1.trans s2).free nL) (by rw [upd_same]; rfl)
end

/-! ### links that can be followed -/
def lastOf (f : Str) (ns : List Str) : Str := (f :: ns).getLast (by simp)
def conB (ts : List Ent) (ns : List Str) (f g : Str) : Bool := decide (ns.map (tailOf ts) = (f :: ns.map (headOf ts)).dropLast) && decide (lastOf f (ns.map (headOf ts)) = g)
theorem atI_last {α : Type} {xs : List α} {v : α} (h : xs[xs.length - 1]? = some v) : atI xs (-1) = some v := by
  have hl := (List.getElem?_eq_some_iff.mp h).1
  unfold atI ixN
  rw [if_neg (by decide), if_pos (by omega)]
  show xs[((-1 : Int) + (xs.length : Int)).toNat]? = some v
  rw [show ((-1 : Int) + (xs.length : Int)).toNat = xs.length - 1 by omega]
  exact h
theorem cut_m1 (xs : List V) : cutV xs none (some (-1)) = xs.take (xs.length - 1) := by
  unfold cutV
  rw [HT.sIx_none, List.drop_zero, Nat.sub_zero]
  congr 1
  show (if (-1 : Int) < 0 then ((-1 : Int) + (xs.length : Int)).toNat else min (-1 : Int).toNat xs.length) = _
  rw [if_pos (by decide)]
  omega
theorem lastOf_at (f : Str) (ns : List Str) : (f :: ns)[(f :: ns).length - 1]? = some (lastOf f ns) := by
  unfold lastOf
  rw [← List.getLast?_eq_getElem?, List.getLast?_eq_some_getLast]
section
variable {P : Program} {w : World} {K : PySem.W.Frag} {mg : Str → Option Value} {base : Heap}
theorem wn_found {ts : List Ent} {n : Str} {e : Str × Str} (hw : ∀ e ∈ ts, WnE e) (h : found ts n = some e) : Wn e.1 ∧ Wn e.2 := by
  unfold found at h
  obtain ⟨x, hx, rfl⟩ := Option.map_eq_some_iff.mp h
  exact (hw x (List.mem_of_find?_eq_some hx)).2
def spConnects (C : Addr) : Sp := fun vs H Q _ => ∃ (n q : Addr) (s t f g : Str) (ts : List Ent) (ps ns : List Str), vs = [.ref n, .ref q, .str f, .str g] ∧ NetAt C H n s t ts ps ∧ NamesT H q ns ∧ ns.length ≤ 900 ∧ (∀ z ∈ ns, z ∈ names ts) ∧ (∀ e ∈ ts, WnE e) ∧ Wn f ∧
  ∀ H', Same H H' → Q (.bl (conB ts ns f g)) H'
theorem ok_connects (T : Txt K mg) : FnOk P w K mg base CX0 6 T.f_connects T.d_connects ["network", "names", "first", "last"] (spConnects T.f_Network) := by
  have GX_Network_getitem : FnOk P w K mg base (L2.CX P w) 3 T.f_Network_getitem T.d_Network_getitem ["self", "name"] (spNGet T.f_Network T.f_UnknownName) := ok_nget T
  have G_Network_getitem := calm_of GX_Network_getitem
  have G_stops := ok_stops (P := P) (w := w) (base := base) T
  refine T.F_connects.ok sc_connects (fun vs H Q E h => ?_) (fun cdv A outer s0 H vs Q E hr h => ?_)
  · obtain ⟨n, q, s, t, f, g, ts, ps, ns, rfl, _⟩ := h
    rfl
  · obtain ⟨n, q, s, t, f, g, ts, ps, ns, rfl, hn, hq, hl, hin, hw, hf, k⟩ := h
    refine ⟨_, (pss_cons (ps_set (i := 4) sc_connects.nd rfl (Or.inl rfl) (pe_call G_stops (hr.mono (by decide)) rfl T.m_stops T.F_stops.kp T.b_stops .nil pass0 (pa_cons (pv 0) (pa_cons (pv 1) (pa_cons (pv 2) pa_nil)))))
    (pss_one (ps_ret (pe_and (pe_cmpR (op_eqD hr.units) (pe_lc (own := [("name", 5)]) (g := gName 5) (tt := tYes) rfl sc_connects.nd (pi_tup (pv 1)) (blkOk_by (N := ["network", "names", "first", "last", "places", "name"]) (sc := defScope s_connects) (by decide +kernel)) (fun _ _ _ _ _ => pg_name (i := 5) sc_connects.nd rfl (Or.inl rfl)) (fun _ _ _ _ _ => pts_nil) (fun _ _ _ _ _ => (pe_ix (show IxR _ (rIxT K) from ix_tup) (pe_getO T.dn_Network_getitem G_Network_getitem (hr.mono (by decide)) T.b_Network_getitem (fun σ => passesAtOf pass0 σ) (pv 0) (pv 5) (fun _ _ => rfl)) pe_int (fun _ _ => rfl)))) (pe_slice sl_list (pv 4) po_none (po_some (pe_un un_neg pe_int))) (nomark _)) (pe_one (pe_cmpR op_eq (pe_ix ix_list (pv 4) (pe_un un_neg pe_int) (fun _ _ => rfl)) (pv 3) (nomark _))))))), ?_⟩
    obtain ⟨dx, d0, pp, b, kvs, h1, _⟩ := id hn
    refine ⟨_, rfl, _, rfl, _, rfl, n, q, s, t, f, ts, ps, ns, rfl, hn, hq, hl, hin, fun L H1 s1 nL eL => ?_⟩
    have hq1 : H1 q = some (.tup (ns.map V.str)) := s1 _ _ hq
    refine ⟨_, rfl, q, rfl, ⟨_, SqT.of hq1⟩, fun D nD => ?_⟩
    have qD : q ≠ D := ne_of_none hq1 nD
    refine lc_tup (K := K) (a := q) (xs := ns.map V.str) (fun j H' => H' = upd H1 D (.lst (((ns.take j).map (tailOf ts)).map V.str))) rfl (fun j H' _ e => by rw [e]; exact SqT.of (by rw [upd_ne qD]; exact hq1)) ?_ ?_
    · rintro j x H2 hj rfl
      rw [List.getElem?_map] at hj
      cases hz : ns[j]? with
      | none => rw [hz] at hj; cases hj
      | some z =>
        rw [hz] at hj
        obtain rfl := Option.some.inj hj
        have hjl := (List.getElem?_eq_some_iff.mp hz).1
        have s2 := s1.trans (same_upd (o := .lst (((ns.take j).map (tailOf ts)).map V.str)) nD)
        obtain ⟨e, he⟩ := found_in (hin z (List.mem_of_getElem? hz))
        refine ⟨rfl, _, rfl, _, rfl, n, dx, _, rfl, s2 _ _ h1, n, s, t, ts, ps, z, rfl, hn.same s2, fun u pq hu hpq => ?_, fun hu => by rw [he] at hu; cases hu⟩
        obtain rfl : e = u := Option.some.inj (he.symm.trans hu)
        refine ⟨pq, _, 0, .str e.1, rfl, rfl, SqT.of hpq, atI_nat (j := 0) rfl, _, upd_same, small1000 (by rw [List.length_map, List.length_map, List.length_take]; omega), ?_⟩
        rw [take_more hz, List.map_append, List.map_append]
        have eh : tailOf ts z = e.1 := by unfold tailOf; rw [he]; rfl
        funext c
        by_cases ec : c = D
        · rw [ec, upd_same, upd_same, List.map_singleton, List.map_singleton, eh]
        · rw [upd_ne ec, upd_ne ec, upd_ne ec]
    rintro H2 rfl
    rw [List.length_map, List.take_length]
    have s2 := same_upd (o := .lst ((ns.map (tailOf ts)).map V.str)) nD
    have eD : (upd H1 D (.lst ((ns.map (tailOf ts)).map V.str))) D = some (.lst ((ns.map (tailOf ts)).map V.str)) := upd_same
    have eL2 := s2 _ _ eL
    generalize upd H1 D (.lst ((ns.map (tailOf ts)).map V.str)) = H2 at s2 eD eL2 ⊢
    refine ⟨_, rfl, 1, rfl, _, rfl, L, _, rfl, SqL.of eL2, fun E1 nE => ?_⟩
    have s3 := same_upd (o := .lst (cutV ((f :: ns.map (headOf ts)).map V.str) none (some (-1)))) nE
    have eE : (upd H2 E1 (.lst (cutV ((f :: ns.map (headOf ts)).map V.str) none (some (-1))))) E1 = some (.lst (((f :: ns.map (headOf ts)).dropLast).map V.str)) := by
      rw [upd_same, cut_m1, ← List.map_take, List.length_map, List.dropLast_eq_take]
    have eD3 := s3 _ _ eD
    have eL3 := s3 _ _ eL2
    generalize upd H2 E1 (.lst (cutV ((f :: ns.map (headOf ts)).map V.str) none (some (-1)))) = H3 at s3 eE eD3 eL3 ⊢
    have wt : ∀ z ∈ ns.map (tailOf ts), Wn z := fun z hz => by
      obtain ⟨x, hx, rfl⟩ := List.mem_map.mp hz
      obtain ⟨e, he⟩ := found_in (hin x hx)
      unfold tailOf
      rw [he]
      exact (wn_found hw he).1
    have wh : ∀ z ∈ (f :: ns.map (headOf ts)).dropLast, Wn z := fun z hz => by
      rcases List.mem_cons.mp ((List.dropLast_sublist _).mem hz) with e | hz
      · rw [e]; exact hf
      · obtain ⟨x, hx, rfl⟩ := List.mem_map.mp hz
        obtain ⟨e, he⟩ := found_in (hin x hx)
        unfold headOf
        rw [he]
        exact (wn_found hw he).2
    refine ⟨_, _, dp_txts eD3, dp_txts eE, shaped_txts wt, shaped_txts wh, ?_⟩
    rw [eqv_txts]
    have s13 := (s1.trans s2).trans s3
    by_cases hc : ns.map (tailOf ts) = (f :: ns.map (headOf ts)).dropLast
    · rw [decide_eq_true hc]
      refine ⟨_, rfl, iteT ?_⟩
      refine ⟨_, rfl, 1, rfl, L, _, _, .str (lastOf f (ns.map (headOf ts))), rfl, rfl, SqL.of eL3, atI_last (by rw [List.length_map, List.getElem?_map, lastOf_at]; rfl), _, rfl, rfl, ?_⟩
      have := k H3 s13
      unfold conB at this
      rw [decide_eq_true hc, Bool.true_and] at this
      have ed : decide (V.str (lastOf f (ns.map (headOf ts))) = V.str g) = decide (lastOf f (ns.map (headOf ts)) = g) := decide_eq_decide.mpr ⟨fun z => V.str.inj z, fun z => by rw [z]⟩
      rw [ed]
      exact this
    · rw [decide_eq_false hc]
      refine ⟨_, rfl, iteF ?_⟩
      have := k H3 s13
      unfold conB at this
      rw [decide_eq_false hc, Bool.false_and] at this
      exact this
end

/-! ### rows that lie apart -/
def innerOf (r : List Str) : List Str := (r.take (r.length - 1)).drop 1
def hitB (rows : List (List Str)) (i : Nat) (p : Str) : Bool := (rows.eraseIdx i).any fun o => decide (p ∈ o)
def apartB (rows : List (List Str)) : Bool := (List.range rows.length).all fun i => (innerOf (rows.getD i [])).all fun p => !hitB rows i p
def RowS (H : Hp) (q : Addr) (r : List Str) : Prop := H q = some (.lst (r.map V.str))
def RowsS (H : Hp) (l : Addr) (rows : List (List Str)) : Prop := ∃ qs : List Addr, H l = some (.lst (qs.map V.ref)) ∧ Paired (RowS H) qs rows
theorem cut_in (xs : List V) : cutV xs (some 1) (some (-1)) = (xs.take (xs.length - 1)).drop 1 := by
  unfold cutV
  have e1 : HT.sIx xs.length 0 (some 1) = min 1 xs.length := HT.sIx_nat _ _ 1
  have e2 : HT.sIx xs.length xs.length (some (-1)) = xs.length - 1 := by
    show (if (-1 : Int) < 0 then ((-1 : Int) + (xs.length : Int)).toNat else min (-1 : Int).toNat xs.length) = _
    rw [if_pos (by decide)]
    omega
  rw [e1, e2, List.drop_take]
  cases xs with
  | nil => rfl
  | cons x r => rw [Nat.min_eq_left (by simp)]
theorem erase_cat {α : Type} (xs : List α) (i : Nat) : xs.take i ++ xs.drop (i + 1) = xs.eraseIdx i := (List.eraseIdx_eq_take_drop_succ xs i).symm
section
variable {P : Program} {w : World} {K : PySem.W.Frag} {mg : Str → Option Value} {base : Heap}
theorem cutA_take (xs : List V) (k : Nat) : cutV xs none (some (k : Int)) = xs.take k := by
  unfold cutV
  rw [HT.sIx_none, HT.sIx_nat, List.drop_zero, Nat.sub_zero]
  by_cases h : k ≤ xs.length
  · rw [Nat.min_eq_left h]
  · rw [Nat.min_eq_right (by omega), List.take_of_length_le (Nat.le_refl _), List.take_of_length_le (by omega)]
theorem cutA_drop (xs : List V) (k : Nat) : cutV xs (some (k : Int)) none = xs.drop k := by
  unfold cutV
  rw [HT.sIx_none, HT.sIx_nat]
  by_cases h : k ≤ xs.length
  · rw [Nat.min_eq_left h, List.take_of_length_le (by rw [List.length_drop]; omega)]
  · rw [Nat.min_eq_right (by omega), List.drop_of_length_le (Nat.le_refl _), List.drop_of_length_le (by omega), List.take_nil]
theorem paired_erase {α β : Type} {F : α → β → Prop} : ∀ {xs : List α} {ys : List β} (i : Nat), Paired F xs ys → Paired F (xs.eraseIdx i) (ys.eraseIdx i)
  | _, _, _, .nil => .nil
  | _ :: _, _ :: _, 0, .cons _ r => r
  | _ :: _, _ :: _, i + 1, .cons a r => .cons a (paired_erase i r)
def spApart : Sp := fun vs H Q _ => ∃ (l : Addr) (rows : List (List Str)), vs = [.ref l] ∧ RowsS H l rows ∧ rows.length ≤ 20 ∧ (∀ r ∈ rows, r.length ≤ 900) ∧ ∀ H', Same H H' → Q (.bl (apartB rows)) H'
theorem ok_apart (T : Txt K mg) : FnOk P w K mg base CX0 1 T.f_apart T.d_apart ["rows"] spApart := by
  refine T.F_apart.ok sc_apart (fun vs H Q E h => ?_) (fun cdv A outer s0 H vs Q E hr h => ?_)
  · obtain ⟨l, rows, rfl, _⟩ := h
    rfl
  · obtain ⟨l, rows, rfl, ⟨qs, el, pl⟩, h20, h900, k⟩ := h
    refine ⟨_, (C8.pss_cut (ps_for PassesOwn.never rfl (pi_enum (by rfl) T.n_enumerate (pa_cons (pv 0) pa_nil)) (pg_tup rfl (pgs_cons (pg_name (i := 1) sc_apart.nd rfl (Or.inl rfl)) (pgs_cons (pg_name (i := 2) sc_apart.nd rfl (Or.inl rfl)) pgs_nil)))
      (pss_cons (ps_set (i := 3) sc_apart.nd rfl (Or.inl rfl) (pe_op op_cat (pe_slice sl_list (pv 0) po_none (po_some (pv 1))) (pe_slice sl_list (pv 0) (po_some (pe_op op_add (pv 1) pe_int)) po_none)))
    (pss_one (ps_for PassesOwn.never rfl (pi_list (pe_slice sl_list (pv 2) (po_some pe_int) (po_some (pe_un un_neg pe_int)))) (pg_name (i := 4) sc_apart.nd rfl (Or.inr rfl))
      (pss_one (ps_if (pt_val (pe_callB (cr_any rfl) (by rfl) T.n_any (by decide +kernel) (pa_cons (pe_lc (own := [("other", 5)]) (g := gName 5) (tt := tYes) rfl sc_apart.nd (pi_list (pv 3)) (blkOk_by (N := ["rows", "at", "row", "others", "place", "other"]) (sc := defScope s_apart) (by decide +kernel)) (fun _ _ _ _ _ => pg_name (i := 5) sc_apart.nd rfl (Or.inl rfl)) (fun _ _ _ _ _ => pts_nil) (fun _ _ _ _ _ => (pe_cmpR (show OpR _ _ (rIn K false) from op_in_seq) (pv 4) (pv 5) (by with_unfolding_all rfl)))) pa_nil)))
      (pss_one (ps_ret pe_bl))
      pss_nil))))))
    (pss_one (ps_ret pe_bl))), ?_⟩
    have hql := pl.length
    refine ⟨fun σ H' => Same H H' ∧ apartB rows = true, ?_, ?_⟩
    · refine ⟨_, rfl, l, _, rfl, SqL.of el, ?_⟩
      refine for_it (walk_enum (K := K) (a := l) (xs := qs.map V.ref)) (fun i σ H' => ∃ (x1 x2 x3 x4 x5 : Option V), σ = [some (.ref l), x1, x2, x3, x4, x5] ∧ Same H H' ∧ ∀ j < i, (innerOf (rows.getD j [])).all (fun p => !hitB rows j p) = true) ⟨_, _, _, _, _, rfl, Same.refl _, fun j hj => absurd hj (Nat.not_lt_zero j)⟩ (fun i σ H' _ ⟨_, _, _, _, _, _, s, _⟩ => SqL.of (s _ _ el)) ?_ ?_
      · rintro i x σ H1 H2 hi ⟨x1, x2, x3, x4, x5, rfl, s1, hall⟩ ⟨Tt, u, v, rfl, nT, rfl, hu, hv⟩
        obtain rfl : V.int (i : Int) = u := Option.some.inj hu
        have hv : (qs.map V.ref)[i]? = some v := hv
        rw [List.getElem?_map] at hv
        cases hq : qs[i]? with
        | none => rw [hq] at hv; cases hv
        | some q =>
          rw [hq] at hv
          obtain rfl := Option.some.inj hv
          obtain ⟨r, hr', er⟩ := pair_at pl hq
          have er : H q = some (.lst (r.map V.str)) := er
          have hil := (List.getElem?_eq_some_iff.mp hr').1
          have hr900 := h900 r (List.mem_of_getElem? hr')
          have s2 := s1.trans (same_upd (o := .tup [V.int (i : Int), .ref q]) nT)
          refine ⟨Tt, _, rfl, SqT.of upd_same, rfl, _, _, rfl, _, _, rfl, rfl, ?_⟩
          generalize upd H1 Tt (.tup [V.int (i : Int), .ref q]) = H2 at s2 ⊢
          refine ⟨_, rfl, _, rfl, _, rfl, l, _, rfl, SqL.of (s2 _ _ el), fun A nA => ?_⟩
          rw [cutA_take]
          have s3 := s2.trans (same_upd (o := .lst ((qs.map V.ref).take i)) nA)
          have eA : (upd H2 A (.lst ((qs.map V.ref).take i))) A = some (.lst ((qs.map V.ref).take i)) := upd_same
          generalize upd H2 A (.lst ((qs.map V.ref).take i)) = H3 at s3 eA ⊢
          refine ⟨_, rfl, _, rfl, _, 1, rfl, rfl, _, rfl, l, _, rfl, SqL.of (s3 _ _ el), fun B nB => ?_⟩
          rw [show ((i : Int) + 1) = ((i + 1 : Nat) : Int) by push_cast; rfl, cutA_drop]
          have s4 := s3.trans (same_upd (o := .lst ((qs.map V.ref).drop (i + 1))) nB)
          have eB : (upd H3 B (.lst ((qs.map V.ref).drop (i + 1)))) B = some (.lst ((qs.map V.ref).drop (i + 1))) := upd_same
          have eA := same_upd (o := .lst ((qs.map V.ref).drop (i + 1))) nB _ _ eA
          generalize upd H3 B (.lst ((qs.map V.ref).drop (i + 1))) = H4 at s4 eA eB ⊢
          refine ⟨A, B, _, _, rfl, rfl, eA, eB, Nat.le_of_lt (small1000 (by simp only [List.length_take, List.length_drop, List.length_map]; omega)), fun O nO => ?_⟩
          have s5 := s4.trans (same_upd (o := .lst ((qs.map V.ref).take i ++ (qs.map V.ref).drop (i + 1))) nO)
          have eO : (upd H4 O (.lst ((qs.map V.ref).take i ++ (qs.map V.ref).drop (i + 1)))) O = some (.lst ((qs.eraseIdx i).map V.ref)) := by
            rw [upd_same, ← List.map_take, ← List.map_drop, ← List.map_append, erase_cat]
          generalize upd H4 O (.lst ((qs.map V.ref).take i ++ (qs.map V.ref).drop (i + 1))) = H5 at s5 eO ⊢
          clear s2 s3 s4 eA eB nA nB nO nT
          have pe := paired_erase i pl
          have hel : (rows.eraseIdx i).length ≤ 20 := Nat.le_trans (List.eraseIdx_sublist rows i).length_le h20
          refine ⟨_, rfl, _, rfl, 1, rfl, _, rfl, q, _, rfl, SqL.of (s5 _ _ er), fun Pl nP => ⟨Pl, rfl, ⟨_, SqL.of upd_same⟩, ?_⟩⟩
          rw [cut_in, List.length_map, ← List.map_take, ← List.map_drop]
          have s6 := s5.trans (same_upd (o := .lst (((r.take (r.length - 1)).drop 1).map V.str)) nP)
          have eP : (upd H5 Pl (.lst (((r.take (r.length - 1)).drop 1).map V.str))) Pl = some (.lst ((innerOf r).map V.str)) := upd_same
          have eO := same_upd (o := .lst (((r.take (r.length - 1)).drop 1).map V.str)) nP _ _ eO
          generalize upd H5 Pl (.lst (((r.take (r.length - 1)).drop 1).map V.str)) = H6 at s6 eP eO ⊢
          refine for_list (K := K) (a := Pl) (xs := (innerOf r).map V.str) (fun j σ H' => ∃ (x4 x5 : Option V), σ = [some (.ref l), some (.int (i : Int)), some (.ref q), some (.ref O), x4, x5] ∧ Same H6 H' ∧ ∀ p ∈ (innerOf r).take j, hitB rows i p = false) ⟨_, _, rfl, Same.refl _, fun p hp => by simp at hp⟩ (fun j σ H' _ ⟨_, _, _, s, _⟩ => SqL.of (s _ _ eP)) ?_ ?_
          · rintro j x σ H7 hj ⟨x4, x5, rfl, s7, hno⟩
            rw [List.getElem?_map] at hj
            cases hz : (innerOf r)[j]? with
            | none => rw [hz] at hj; cases hj
            | some p =>
              rw [hz] at hj
              obtain rfl := Option.some.inj hj
              have eO7 := s7 _ _ eO
              refine ⟨_, rfl, O, rfl, ⟨_, SqL.of eO7⟩, fun D nD => ?_⟩
              have OD : O ≠ D := ne_of_none eO7 nD
              refine lc_list (K := K) (a := O) (xs := (qs.eraseIdx i).map V.ref) (fun m H' => H' = upd H7 D (.lst ((((rows.eraseIdx i).take m).map fun o => decide (p ∈ o)).map V.bl))) rfl (fun m H' _ e => by rw [e]; exact SqL.of (by rw [upd_ne OD]; exact eO7)) ?_ ?_
              · rintro m y H8 hm rfl
                rw [List.getElem?_map] at hm
                cases hqo : (qs.eraseIdx i)[m]? with
                | none => rw [hqo] at hm; cases hm
                | some qo =>
                  rw [hqo] at hm
                  obtain rfl := Option.some.inj hm
                  obtain ⟨o, ho, eo⟩ := pair_at pe hqo
                  have eo : H qo = some (.lst (o.map V.str)) := eo
                  have eo7 := s7 _ _ (s6 _ _ eo)
                  refine ⟨rfl, _, rfl, _, rfl, qo, _, rfl, .inl (SqL.of (by rw [upd_ne (ne_of_none eo7 nD)]; exact eo7)), rfl, flat_names o, _, upd_same, small1000 (by rw [List.length_map, List.length_map, List.length_take]; omega), ?_⟩
                  rw [if_neg Bool.false_ne_true, inV_names, take_more ho, List.map_append, List.map_append]
                  funext c
                  by_cases ec : c = D
                  · rw [ec, upd_same, upd_same]; rfl
                  · rw [upd_ne ec, upd_ne ec, upd_ne ec]
              rintro H8 rfl
              rw [List.length_map, pe.length, List.take_length]
              refine ⟨D, _, rfl, SqL.of upd_same, _, rfl, ?_⟩
              have s8 := s7.trans (same_upd (o := .lst (((rows.eraseIdx i).map fun o => decide (p ∈ o)).map V.bl)) nD)
              have eh : ((rows.eraseIdx i).map fun o => decide (p ∈ o)).any id = hitB rows i p := by
                unfold hitB
                rw [List.any_map]
                rfl
              rw [eh]
              cases hb : hitB rows i p with
              | true =>
                refine iteT ?_
                have := k _ (s6.trans s8)
                have ha : apartB rows = false := by
                  unfold apartB
                  rw [List.all_eq_false]
                  refine ⟨i, List.mem_range.mpr hil, ?_⟩
                  rw [show rows.getD i [] = r by rw [List.getD_eq_getElem?_getD, hr']; rfl]
                  rw [Bool.not_eq_true, List.all_eq_false]
                  exact ⟨p, List.mem_of_getElem? hz, by rw [hb]; decide⟩
                rw [ha] at this
                exact this
              | false =>
                refine iteF ⟨_, _, rfl, s8, fun y hy => ?_⟩
                rw [take_more hz] at hy
                rcases List.mem_append.mp hy with h | h
                · exact hno y h
                · rw [List.mem_singleton.mp h]; exact hb
          · rintro σ H7 ⟨x4, x5, rfl, s7, hno⟩
            rw [List.length_map, List.take_length] at hno
            refine ⟨_, _, _, _, _, rfl, s6.trans s7, fun j hj => ?_⟩
            rcases Nat.lt_or_ge j i with h | h
            · exact hall j h
            · obtain rfl : j = i := by omega
              rw [show rows.getD j [] = r by rw [List.getD_eq_getElem?_getD, hr']; rfl, List.all_eq_true]
              intro p hp
              rw [hno p hp]
              rfl
      · rintro σ H1 ⟨x1, x2, x3, x4, x5, rfl, s1, hall⟩
        refine ⟨s1, ?_⟩
        unfold apartB
        rw [List.all_eq_true]
        intro j hj
        rw [List.length_map, hql] at hall
        exact hall j (List.mem_range.mp hj)
    · rintro σ H1 ⟨s1, ha⟩
      have := k H1 s1
      rw [ha] at this
      exact this
end

/-! ### a bridged pair -/
theorem it_gen {J : It} {n : Nat} {G : Hp → Prop} {Y : Nat → Hp → V → Hp → Prop} (w : Walk J n G Y) {B : (Hp → Prop) → V → Hp → Prop} {H0 : Hp} {Qd : Hp → Prop} (Pv : Nat → Hp → Prop) (h0 : Pv 0 H0) (hG : ∀ i H, i ≤ n → Pv i H → G H)
    (hs : ∀ i x H H', i < n → Pv i H → Y i H x H' → B (Pv (i + 1)) x H') (hd : ∀ H, Pv n H → Qd H) :
    ∃ W : Nat → Nat → Hp → Prop, (∃ m, W 0 m H0) ∧ ∀ i m H, W i m H → (J.stop i H ∧ Qd H) ∨ (J.go i H ∧ ∃ Nx : Hp → Prop, (∀ H', Nx H' → ∃ m', m' < m ∧ W (i + 1) m' H') ∧ ∀ x H', J.yld i H x H' → B Nx x H') := by
  refine ⟨fun i m H => m = n - i ∧ i ≤ n ∧ Pv i H, ⟨n, by simp, Nat.zero_le _, h0⟩, ?_⟩
  rintro i m H ⟨rfl, hi, p⟩
  have q := hG i H hi p
  by_cases hlt : i < n
  · exact .inr ⟨w.goes i H hlt q, Pv (i + 1), fun H' p' => ⟨n - (i + 1), by omega, rfl, hlt, p'⟩, fun x H' y => hs i x H H' hlt p (w.yields i H x H' hlt q y)⟩
  · have e : i = n := by omega
    subst e
    exact .inl ⟨w.stops H q, hd H p⟩
theorem walk_zipT {K : PySem.W.Frag} {a b : Addr} {xs ys : List V} {n : Nat} (hn : n = min xs.length ys.length) : Walk (RZ.ItzT K a b) n (fun H => SqT K H a xs ∧ SqT K H b ys) (YPair (fun i => xs[i]?) (fun i => ys[i]?)) := by
  subst hn
  refine ⟨fun i _ hi q => ?_, fun _ q => ⟨xs, ys, q.1, q.2, by omega⟩, fun i H v H' _ q y => ?_⟩
  · have h1 : i < xs.length := by omega
    have h2 : i < ys.length := by omega
    exact ⟨xs, ys, xs[i], ys[i], q.1, q.2, by simp [h1], by simp [h2]⟩
  · obtain ⟨T, x, z, h1, h2, h3, h4, h5⟩ := y
    exact ⟨T, x, z, h1, h2, h3, h4 xs q.1, h5 ys q.2⟩
theorem flat_len (k : Nat) : ∀ rows : List (List Str), (∀ r ∈ rows, r.length ≤ k) → rows.flatten.length ≤ k * rows.length
  | [], _ => Nat.le_refl _
  | r :: l, h => by
    rw [List.flatten_cons, List.length_append, List.length_cons]
    have a := h r List.mem_cons_self
    have b := flat_len k l fun x hx => h x (List.mem_cons_of_mem _ hx)
    rw [Nat.mul_add]
    omega
theorem paired_app {α β : Type} {F : α → β → Prop} : ∀ {xs : List α} {ys : List β} {us : List α} {vs : List β}, Paired F xs ys → Paired F us vs → Paired F (xs ++ us) (ys ++ vs)
  | _, _, _, _, .nil, h => h
  | _, _, _, _, .cons a r, h => .cons a (paired_app r h)
def PairT (H : Hp) (q : Addr) (e : Str × Str) : Prop := H q = some (.tup [.str e.1, .str e.2])
theorem same_keep {H H' : Hp} {D : Addr} {o : HO} (nD : H D = none) (s : Same H H') : Same H (upd H' D o) := fun c x h => by
  rw [upd_ne (ne_of_none h nD)]
  exact s c x h
def SevenS (H : Hp) (p : Addr) (rows : List (List Str)) : Prop := ∃ qs : List Addr, H p = some (.tup (qs.map V.ref)) ∧ Paired (NamesT H) qs rows
def firstN (r : List Str) : Str := r.getD 0 ""
def lastN (r : List Str) : Str := r.getD (r.length - 1) ""
def pairEnds (ts : List Ent) (s t : Str) (cx xm cv : List Str) : List (Str × Str) :=
  let c := tailOf ts (firstN cx); let x := headOf ts (lastN cx); let v := headOf ts (lastN cv); let m := headOf ts (lastN xm)
  [(s, c), (c, x), (x, m), (c, v), (v, m), (x, v), (m, t)]
def stopsOf (ts : List Ent) (r : List Str) (f : Str) : List Str := f :: r.map (headOf ts)
def pairB (ts : List Ent) (s t : Str) (rows : List (List Str)) : Bool :=
  let es := pairEnds ts s t (rows.getD 1 []) (rows.getD 2 []) (rows.getD 3 [])
  !(((rows.drop 1).take 5).any fun r => decide (r.length = 0)) && rows.all (fun r => r.all fun z => decide (z ∈ names ts)) &&
  (rows.zip es).all (fun q => conB ts q.1 q.2.1 q.2.2) && apartB ((rows.zip es).map fun q => stopsOf ts q.1 q.2.1)
section
variable {P : Program} {w : World} {K : PySem.W.Frag} {mg : Str → Option Value} {base : Heap}
def spPair (C : Addr) : Sp := fun vs H Q _ => ∃ (n p : Addr) (s t : Str) (ts : List Ent) (ps : List Str) (rows : List (List Str)), vs = [.ref n, .ref p] ∧ NetAt C H n s t ts ps ∧ SevenS H p rows ∧ rows.length = 7 ∧ (∀ r ∈ rows, r.length ≤ 100) ∧ (∀ e ∈ ts, WnE e) ∧ Wn s ∧ Wn t ∧
  ∀ H', Same H H' → Q (.bl (pairB ts s t rows)) H'
set_option maxHeartbeats 600000 in
theorem ok_pair (T : Txt K mg) : FnOk P w K mg base CX0 7 T.f_check_pair T.d_check_pair ["network", "pair"] (spPair T.f_Network) := by
  have GX_Network_getitem : FnOk P w K mg base (L2.CX P w) 3 T.f_Network_getitem T.d_Network_getitem ["self", "name"] (spNGet T.f_Network T.f_UnknownName) := ok_nget T
  have G_Network_getitem := calm_of GX_Network_getitem
  have G_Network_contains := ok_nin (P := P) (w := w) (base := base) T
  have G_Network_start := ok_nstart (P := P) (w := w) (base := base) T
  have G_Network_end := ok_nend (P := P) (w := w) (base := base) T
  have G_stops := ok_stops (P := P) (w := w) (base := base) T
  have G_connects := ok_connects (P := P) (w := w) (base := base) T
  have G_apart := ok_apart (P := P) (w := w) (base := base) T
  refine T.F_check_pair.ok sc_check_pair (fun vs H Q E h => ?_) (fun cdv A outer s0 H vs Q E hr h => ?_)
  · obtain ⟨n, p, s, t, ts, ps, rows, rfl, _⟩ := h
    rfl
  · obtain ⟨n, p, s, t, ts, ps, rows, rfl, hn, ⟨qs, ep, pl⟩, h7, h100, hw, ws, wt, k⟩ := h
    refine ⟨_, (pss_cons (ps_if (PW.pt (pw_or (pt_cmpR op_ne (pe_callB call_len_seq (by rfl) T.n_len (by decide +kernel) (pa_cons (pv 1) pa_nil)) pe_int (nomark _)) (pw_or1 (pt_cmpR op_eq (pe_callB (cr_min rfl) (by rfl) T.n_min (by decide +kernel) (pa_cons (pe_lc (own := [("names", 10)]) (g := gName 10) (tt := tYes) rfl sc_check_pair.nd (pi_tup (pe_slice sl_tupA (pv 1) (po_some pe_int) (po_some pe_int))) (blkOk_by (N := ["network", "pair", "cx", "xm", "cv", "c", "x", "v", "m", "ends", "names", "first", "_", "name", "last"]) (sc := defScope s_check_pair) (by decide +kernel)) (fun _ _ _ _ _ => pg_name (i := 10) sc_check_pair.nd rfl (Or.inl rfl)) (fun _ _ _ _ _ => pts_nil) (fun _ _ _ _ _ => (pe_callB (show CallR _ _ (rLenS K) from call_len_seq) (by rfl) T.n_len (by decide +kernel) (pa_cons (pv 10) pa_nil)))) pa_nil)) pe_int (nomark _)))))
      (pss_one (ps_ret pe_bl))
      pss_nil)
    (pss_cons (ps_if (pt_not (pt_val (pe_callB (cr_all rfl) (by rfl) T.n_all (by decide +kernel) (pa_cons (pe_lc2 (own := [("names", 10), ("name", 13)]) (vs1 := [13]) (g := gName 10) (g1 := gName 13) (tt := tYes) (tt1 := tYes) rfl sc_check_pair.nd (pi_tup (pv 1)) (blkOk_by (N := ["network", "pair", "cx", "xm", "cv", "c", "x", "v", "m", "ends", "names", "first", "_", "name", "last"]) (sc := defScope s_check_pair) (by decide +kernel)) (by decide) (fun _ _ _ _ _ => (pg_name (i := 10) sc_check_pair.nd rfl (Or.inl rfl))) (fun _ _ _ _ _ => pts_nil) (fun _ _ _ _ _ => (show PI _ _ _ (iTup K _) from (pi_tup (pv 10)))) (fun _ _ _ _ _ => (pg_name (i := 13) sc_check_pair.nd rfl (Or.inl rfl))) (fun _ _ _ _ _ => pts_nil) (fun _ _ _ _ _ => (pe_cmpR (op_inO T.dn_Network_contains G_Network_contains (hr.mono (by decide)) T.b_Network_contains pass0) (pv 13) (pv 0) rfl))) pa_nil))))
      (pss_one (ps_ret pe_bl))
      pss_nil)
    (pss_cons (ps_asg (pe_slice sl_tupA (pv 1) (po_some pe_int) (po_some pe_int)) (pg_tup rfl (pgs_cons (pg_name (i := 2) sc_check_pair.nd rfl (Or.inl rfl)) (pgs_cons (pg_name (i := 3) sc_check_pair.nd rfl (Or.inl rfl)) (pgs_cons (pg_name (i := 4) sc_check_pair.nd rfl (Or.inl rfl)) pgs_nil)))))
    (pss_cons (ps_set (i := 5) sc_check_pair.nd rfl (Or.inl rfl) (pe_ix ix_tup (pe_getO T.dn_Network_getitem G_Network_getitem (hr.mono (by decide)) T.b_Network_getitem (fun σ => passesAtOf pass0 σ) (pv 0) (pe_ix ix_tup (pv 2) pe_int (fun _ _ => rfl)) (fun _ _ => rfl)) pe_int (fun _ _ => rfl)))
    (pss_cons (ps_set (i := 6) sc_check_pair.nd rfl (Or.inl rfl) (pe_ix ix_tup (pe_getO T.dn_Network_getitem G_Network_getitem (hr.mono (by decide)) T.b_Network_getitem (fun σ => passesAtOf pass0 σ) (pv 0) (pe_ix ix_tup (pv 2) (pe_un un_neg pe_int) (fun _ _ => rfl)) (fun _ _ => rfl)) pe_int (fun _ _ => rfl)))
    (pss_cons (ps_set (i := 7) sc_check_pair.nd rfl (Or.inl rfl) (pe_ix ix_tup (pe_getO T.dn_Network_getitem G_Network_getitem (hr.mono (by decide)) T.b_Network_getitem (fun σ => passesAtOf pass0 σ) (pv 0) (pe_ix ix_tup (pv 4) (pe_un un_neg pe_int) (fun _ _ => rfl)) (fun _ _ => rfl)) pe_int (fun _ _ => rfl)))
    (pss_cons (ps_set (i := 8) sc_check_pair.nd rfl (Or.inl rfl) (pe_ix ix_tup (pe_getO T.dn_Network_getitem G_Network_getitem (hr.mono (by decide)) T.b_Network_getitem (fun σ => passesAtOf pass0 σ) (pv 0) (pe_ix ix_tup (pv 3) (pe_un un_neg pe_int) (fun _ _ => rfl)) (fun _ _ => rfl)) pe_int (fun _ _ => rfl)))
    (pss_cons (ps_set (i := 9) sc_check_pair.nd rfl (Or.inl rfl) (pe_tup (pa_cons (pe_tup (pa_cons (pe_prop (pv 0) T.cl_Network T.p_Network_start G_Network_start (hr.mono (by decide)) T.b_Network_start .nil pass0 rfl) (pa_cons (pv 5) pa_nil))) (pa_cons (pe_tup (pa_cons (pv 5) (pa_cons (pv 6) pa_nil))) (pa_cons (pe_tup (pa_cons (pv 6) (pa_cons (pv 8) pa_nil))) (pa_cons (pe_tup (pa_cons (pv 5) (pa_cons (pv 7) pa_nil))) (pa_cons (pe_tup (pa_cons (pv 7) (pa_cons (pv 8) pa_nil))) (pa_cons (pe_tup (pa_cons (pv 6) (pa_cons (pv 7) pa_nil))) (pa_cons (pe_tup (pa_cons (pv 8) (pa_cons (pe_prop (pv 0) T.cl_Network T.p_Network_end G_Network_end (hr.mono (by decide)) T.b_Network_end .nil pass0 rfl) pa_nil))) pa_nil)))))))))
    (pss_cons (ps_if (pt_not (pt_val (pe_callB (cr_all rfl) (by rfl) T.n_all (by decide +kernel) (pa_cons (pe_lc (own := [("names", 10), ("first", 11), ("last", 14)]) (g := gTup K 2 (gCons (gName 10) (gCons (gTup K 2 (gCons (gName 11) (gCons (gName 14) gNil))) gNil))) (tt := tYes) rfl sc_check_pair.nd (RZ.pi_zipA (by rfl) T.n_zip (pa_cons (pv 1) (pa_cons (pv 9) pa_nil))) (blkOk_by (N := ["network", "pair", "cx", "xm", "cv", "c", "x", "v", "m", "ends", "names", "first", "_", "name", "last"]) (sc := defScope s_check_pair) (by decide +kernel)) (fun _ _ _ _ _ => (pg_tup rfl (pgs_cons (pg_name (i := 10) sc_check_pair.nd rfl (Or.inl rfl)) (pgs_cons (pg_tup rfl (pgs_cons (pg_name (i := 11) sc_check_pair.nd rfl (Or.inl rfl)) (pgs_cons (pg_name (i := 14) sc_check_pair.nd rfl (Or.inl rfl)) pgs_nil))) pgs_nil)))) (fun _ _ _ _ _ => pts_nil) (fun _ _ _ _ _ => (pe_call G_connects (hr.mono (by decide)) rfl T.m_connects T.F_connects.kp T.b_connects .nil pass0 (pa_cons (pv 0) (pa_cons (pv 10) (pa_cons (pv 11) (pa_cons (pv 14) pa_nil))))))) pa_nil))))
      (pss_one (ps_ret pe_bl))
      pss_nil)
    (pss_one (ps_ret (pe_call G_apart (hr.mono (by decide)) rfl T.m_apart T.F_apart.kp T.b_apart .nil pass0 (pa_cons (pe_lc (own := [("names", 10), ("first", 11), ("_", 12)]) (g := gTup K 2 (gCons (gName 10) (gCons (gTup K 2 (gCons (gName 11) (gCons (gName 12) gNil))) gNil))) (tt := tYes) rfl sc_check_pair.nd (RZ.pi_zipA (by rfl) T.n_zip (pa_cons (pv 1) (pa_cons (pv 9) pa_nil))) (blkOk_by (N := ["network", "pair", "cx", "xm", "cv", "c", "x", "v", "m", "ends", "names", "first", "_", "name", "last"]) (sc := defScope s_check_pair) (by decide +kernel)) (fun _ _ _ _ _ => (pg_tup rfl (pgs_cons (pg_name (i := 10) sc_check_pair.nd rfl (Or.inl rfl)) (pgs_cons (pg_tup rfl (pgs_cons (pg_name (i := 11) sc_check_pair.nd rfl (Or.inl rfl)) (pgs_cons (pg_name (i := 12) sc_check_pair.nd rfl (Or.inl rfl)) pgs_nil))) pgs_nil)))) (fun _ _ _ _ _ => pts_nil) (fun _ _ _ _ _ => (pe_call G_stops (hr.mono (by decide)) rfl T.m_stops T.F_stops.kp T.b_stops .nil pass0 (pa_cons (pv 0) (pa_cons (pv 10) (pa_cons (pv 11) pa_nil)))))) pa_nil))))))))))))), ?_⟩
    obtain ⟨dx, d0, pp, b, kvs, h1, _⟩ := id hn
    obtain ⟨q0, q1, q2, q3, q4, q5, q6, rfl⟩ : ∃ q0 q1 q2 q3 q4 q5 q6, qs = [q0, q1, q2, q3, q4, q5, q6] := by
      have := pl.length
      rw [h7] at this
      match qs, this with
      | [a, b, c, d, e, f, g], _ => exact ⟨a, b, c, d, e, f, g, rfl⟩
    obtain ⟨r0, r1, r2, r3, r4, r5, r6, rfl⟩ : ∃ r0 r1 r2 r3 r4 r5 r6, rows = [r0, r1, r2, r3, r4, r5, r6] := by
      match rows, h7 with
      | [a, b, c, d, e, f, g], _ => exact ⟨a, b, c, d, e, f, g, rfl⟩
    have pl' := pl
    cases pl' with | cons e0 pl' => cases pl' with | cons e1 pl' => cases pl' with | cons e2 pl' => cases pl' with | cons e3 pl' => cases pl' with | cons e4 pl' => cases pl' with | cons e5 pl' => cases pl' with | cons e6 pl' =>
    clear pl'
    refine ⟨_, rfl, p, _, rfl, .inr (SqT.of ep), rfl, false, rfl, iteF ?_⟩
    refine ⟨_, rfl, 1, rfl, 6, rfl, p, _, rfl, SqT.of ep, fun e => absurd (show (1 : Nat) = 0 from e.1) Nat.one_ne_zero, fun _ A nA => ?_⟩
    have s1 := same_upd (o := .tup (cutV ([q0, q1, q2, q3, q4, q5, q6].map V.ref) (some 1) (some 6))) nA
    have eA : (upd H A (.tup (cutV ([q0, q1, q2, q3, q4, q5, q6].map V.ref) (some 1) (some 6)))) A = some (.tup ([q1, q2, q3, q4, q5].map V.ref)) := upd_same
    generalize upd H A (.tup (cutV ([q0, q1, q2, q3, q4, q5, q6].map V.ref) (some 1) (some 6))) = H1 at s1 eA ⊢
    refine ⟨A, rfl, ⟨_, SqT.of eA⟩, fun D nD => ?_⟩
    have AD : A ≠ D := ne_of_none eA nD
    have p5 : Paired (NamesT H) [q1, q2, q3, q4, q5] [r1, r2, r3, r4, r5] := .cons e1 (.cons e2 (.cons e3 (.cons e4 (.cons e5 .nil))))
    refine lc_tup (K := K) (a := A) (xs := [q1, q2, q3, q4, q5].map V.ref) (fun j H' => H' = upd H1 D (.lst ((([r1, r2, r3, r4, r5].take j).map fun r => (r.length : Int)).map V.int))) rfl (fun j H' _ e => by rw [e]; exact SqT.of (by rw [upd_ne AD]; exact eA)) ?_ ?_
    · rintro j x H2 hj rfl
      rw [List.getElem?_map] at hj
      cases hq : [q1, q2, q3, q4, q5][j]? with
      | none => rw [hq] at hj; cases hj
      | some q =>
        rw [hq] at hj
        obtain rfl := Option.some.inj hj
        obtain ⟨r, hr', er⟩ := pair_at p5 hq
        have er1 := s1 _ _ (show H q = some (.tup (r.map V.str)) from er)
        refine ⟨rfl, _, rfl, q, _, rfl, .inr (SqT.of (by rw [upd_ne (ne_of_none er1 nD)]; exact er1)), _, upd_same, small1000 (by simp only [List.length_map, List.length_take, List.length_cons, List.length_nil]; omega), ?_⟩
        rw [take_more hr', List.map_append, List.map_append, List.length_map]
        funext c
        by_cases ec : c = D
        · rw [ec, upd_same, upd_same]; rfl
        · rw [upd_ne ec, upd_ne ec, upd_ne ec]
    rintro H2 rfl
    have s2 := same_upd (o := .lst ((([r1, r2, r3, r4, r5].take ([q1, q2, q3, q4, q5].map V.ref).length).map fun r => (r.length : Int)).map V.int)) nD
    have s2 := s1.trans s2
    refine ⟨D, _, rfl, SqL.of upd_same, by simp, fun m hm hle => ?_⟩
    generalize upd H1 D (.lst ((([r1, r2, r3, r4, r5].take ([q1, q2, q3, q4, q5].map V.ref).length).map fun r => (r.length : Int)).map V.int)) = H2 at s2 ⊢
    have hany : ([r1, r2, r3, r4, r5].any fun r => decide (r.length = 0)) = decide (m = 0) := by
      rcases Decidable.em (m = 0) with hz | hz
      · rw [decide_eq_true hz, List.any_eq_true]
        obtain ⟨r, hr, e⟩ := List.mem_map.mp hm
        exact ⟨r, List.mem_of_mem_take hr, by rw [decide_eq_true_eq]; omega⟩
      · rw [decide_eq_false hz, List.any_eq_false]
        intro r hr
        rw [decide_eq_true_eq]
        intro e0
        have := hle (r.length : Int) (List.mem_map_of_mem (f := fun r : List Str => (r.length : Int)) (by exact hr))
        obtain ⟨r', _, e⟩ := List.mem_map.mp hm
        omega
    refine ⟨rfl, _, rfl, ?_⟩
    have em : decide (V.int m = V.int 0) = decide (m = 0) := decide_eq_decide.mpr ⟨fun z => V.int.inj z, fun z => by rw [z]⟩
    rw [em]
    rcases Decidable.em (m = 0) with hz | hz
    · rw [decide_eq_true hz]
      refine iteT ?_
      have := k H2 s2
      have e : pairB ts s t [r0, r1, r2, r3, r4, r5, r6] = false := by
        unfold pairB
        show (!([r1, r2, r3, r4, r5].any fun r => decide (r.length = 0)) && _ && _ && _) = false
        rw [hany, decide_eq_true hz]
        rfl
      rw [e] at this
      exact this
    rw [decide_eq_false hz] at hany ⊢
    refine iteF ?_
    clear hm hle em nA nD AD eA
    refine ⟨_, rfl, p, rfl, ⟨_, SqT.of (s2 _ _ ep)⟩, fun D nD => ?_⟩
    have ep2 := s2 _ _ ep
    have pD : p ≠ D := ne_of_none ep2 nD
    have hfl : ∀ i, ((([r0, r1, r2, r3, r4, r5, r6] : List (List Str)).take i).flatten).length ≤ 700 := fun i =>
      Nat.le_trans (flat_len 100 _ fun r hr => h100 r (List.mem_of_mem_take hr)) (by rw [List.length_take]; simp only [List.length_cons, List.length_nil]; omega)
    refine it_gen (walk_tup (K := K) (a := p) (xs := [q0, q1, q2, q3, q4, q5, q6].map V.ref)) (fun i H' => H' = upd H2 D (.lst (((([r0, r1, r2, r3, r4, r5, r6].take i).flatten).map fun z => decide (z ∈ names ts)).map V.bl))) rfl (fun i H' _ e => by rw [e]; exact SqT.of (by rw [upd_ne pD]; exact ep2)) ?_ ?_
    · rintro i x H3 H3' hi rfl ⟨rfl, hx⟩
      rw [List.getElem?_map] at hx
      cases hq : [q0, q1, q2, q3, q4, q5, q6][i]? with
      | none => rw [hq] at hx; cases hx
      | some q =>
        rw [hq] at hx
        obtain rfl := Option.some.inj hx
        obtain ⟨r, hr', er⟩ := pair_at pl hq
        have er2 := s2 _ _ (show H q = some (.tup (r.map V.str)) from er)
        have qD : q ≠ D := ne_of_none er2 nD
        have hil := (List.getElem?_eq_some_iff.mp hr').1
        have hr100 := h100 r (List.mem_of_getElem? hr')
        refine ⟨rfl, _, rfl, q, rfl, ⟨_, SqT.of (by rw [upd_ne qD]; exact er2)⟩, ?_⟩
        refine it_gen (walk_tup (K := K) (a := q) (xs := r.map V.str)) (fun j H' => H' = upd H2 D (.lst (((([r0, r1, r2, r3, r4, r5, r6].take i).flatten ++ r.take j).map fun z => decide (z ∈ names ts)).map V.bl))) (by rw [List.take_zero, List.append_nil]) (fun j H' _ e => by rw [e]; exact SqT.of (by rw [upd_ne qD]; exact er2)) ?_ ?_
        · rintro j x H4 H4' hj rfl ⟨rfl, hx⟩
          rw [List.getElem?_map] at hx
          cases hz : r[j]? with
          | none => rw [hz] at hx; cases hx
          | some z =>
            rw [hz] at hx
            obtain rfl := Option.some.inj hx
            have sD : Same H2 (upd H2 D (.lst (((([r0, r1, r2, r3, r4, r5, r6].take i).flatten ++ r.take j).map fun z => decide (z ∈ names ts)).map V.bl))) := same_upd nD
            refine ⟨rfl, _, rfl, _, rfl, n, dx, _, rfl, sD _ _ (s2 _ _ h1), n, s, t, ts, ps, z, rfl, hn.same (s2.trans sD), ?_⟩
            refine ⟨_, rfl, _, upd_same, small1000 (by
              have := hfl i
              simp only [List.length_map, List.length_append, List.length_take]
              omega), ?_⟩
            rw [if_neg Bool.false_ne_true, found_some, take_more hz, ← List.append_assoc, List.map_append (l₂ := [z]), List.map_append (l₂ := List.map _ [z])]
            funext c
            by_cases ec : c = D
            · rw [ec, upd_same, upd_same]; rfl
            · rw [upd_ne ec, upd_ne ec, upd_ne ec]
        rintro H4 rfl
        rw [List.length_map, List.take_length, take_more hr', List.flatten_append]
        simp only [List.flatten_cons, List.flatten_nil, List.append_nil]
    rintro H3 rfl
    have s3 := s2.trans (same_upd (o := .lst (((([r0, r1, r2, r3, r4, r5, r6].take ([q0, q1, q2, q3, q4, q5, q6].map V.ref).length).flatten).map fun z => decide (z ∈ names ts)).map V.bl)) nD)
    refine ⟨D, _, rfl, SqL.of upd_same, _, rfl, ?_⟩
    generalize upd H2 D (.lst (((([r0, r1, r2, r3, r4, r5, r6].take ([q0, q1, q2, q3, q4, q5, q6].map V.ref).length).flatten).map fun z => decide (z ∈ names ts)).map V.bl)) = H3 at s3 ⊢
    have eall : ((([r0, r1, r2, r3, r4, r5, r6].take ([q0, q1, q2, q3, q4, q5, q6].map V.ref).length).flatten).map fun z => decide (z ∈ names ts)).all id = ([r0, r1, r2, r3, r4, r5, r6].all fun r => r.all fun z => decide (z ∈ names ts)) := by
      show (([r0, r1, r2, r3, r4, r5, r6].flatten).map fun z => decide (z ∈ names ts)).all id = _
      rw [List.all_map, List.all_flatten]
      rfl
    rw [eall]
    cases hk : [r0, r1, r2, r3, r4, r5, r6].all fun r => r.all fun z => decide (z ∈ names ts) with
    | false =>
      refine iteT ?_
      have := k H3 s3
      have e : pairB ts s t [r0, r1, r2, r3, r4, r5, r6] = false := by
        unfold pairB
        show (_ && ([r0, r1, r2, r3, r4, r5, r6].all fun r => r.all fun z => decide (z ∈ names ts)) && _ && _) = false
        rw [hk, Bool.and_false, Bool.false_and, Bool.false_and]
      rw [e] at this
      exact this
    | true =>
    refine iteF ?_
    clear nD pD ep2 s2 eall
    refine ⟨_, rfl, 1, rfl, 4, rfl, p, _, rfl, SqT.of (s3 _ _ ep), fun e => absurd (show (1 : Nat) = 0 from e.1) Nat.one_ne_zero, fun _ A nA => ?_⟩
    have s4 := s3.trans (same_upd (o := .tup (cutV ([q0, q1, q2, q3, q4, q5, q6].map V.ref) (some 1) (some 4))) nA)
    have eA : (upd H3 A (.tup (cutV ([q0, q1, q2, q3, q4, q5, q6].map V.ref) (some 1) (some 4)))) A = some (.tup ([q1, q2, q3].map V.ref)) := upd_same
    generalize upd H3 A (.tup (cutV ([q0, q1, q2, q3, q4, q5, q6].map V.ref) (some 1) (some 4))) = H4 at s4 eA ⊢
    refine ⟨A, _, rfl, SqT.of eA, rfl, _, _, rfl, _, _, rfl, _, _, rfl, rfl, ?_⟩
    have ne5 : ∀ r ∈ [r1, r2, r3, r4, r5], 0 < r.length := fun r hr => by
      have := List.any_eq_false.mp hany r hr
      rw [decide_eq_true_eq] at this
      omega
    have kn : ∀ r ∈ [r0, r1, r2, r3, r4, r5, r6], ∀ z ∈ r, z ∈ names ts := fun r hr z hz => of_decide_eq_true (List.all_eq_true.mp (List.all_eq_true.mp hk r hr) z hz)
    have fst : ∀ r ∈ [r1, r2, r3, r4, r5], r[0]? = some (firstN r) := fun r hr => by
      have := ne5 r hr
      unfold firstN
      rw [List.getD_eq_getElem?_getD, List.getElem?_eq_getElem this]
      rfl
    have lst : ∀ r ∈ [r1, r2, r3, r4, r5], r[r.length - 1]? = some (lastN r) := fun r hr => by
      have := ne5 r hr
      unfold lastN
      rw [List.getD_eq_getElem?_getD, List.getElem?_eq_getElem (show r.length - 1 < r.length by omega)]
      rfl
    have in5 : ∀ r ∈ [r1, r2, r3, r4, r5], r ∈ [r0, r1, r2, r3, r4, r5, r6] := fun r hr => by
      refine List.mem_cons_of_mem _ ?_
      exact List.mem_append_left [r6] hr
    have ft := fun r hr => found_in (kn r (in5 r hr) _ (List.mem_of_getElem? (fst r hr)))
    have lt := fun r hr => found_in (kn r (in5 r hr) _ (List.mem_of_getElem? (lst r hr)))
    have m1 : r1 ∈ [r1, r2, r3, r4, r5] := by simp
    have m2 : r2 ∈ [r1, r2, r3, r4, r5] := by simp
    have m3 : r3 ∈ [r1, r2, r3, r4, r5] := by simp
    have E1 := s4 _ _ (show H q1 = some (.tup (r1.map V.str)) from e1)
    have E2 := s4 _ _ (show H q2 = some (.tup (r2.map V.str)) from e2)
    have E3 := s4 _ _ (show H q3 = some (.tup (r3.map V.str)) from e3)
    obtain ⟨u1, hu1⟩ := ft r1 m1
    refine ⟨_, rfl, _, rfl, q1, _, 0, .str (firstN r1), rfl, rfl, SqT.of E1, atI_nat (j := 0) (by rw [List.getElem?_map, fst r1 m1]; rfl), n, dx, _, rfl, s4 _ _ h1, n, s, t, ts, ps, _, rfl, hn.same s4, fun u pq hu hpq => ?_, fun hu => by rw [hu1] at hu; cases hu⟩
    obtain rfl : u1 = u := Option.some.inj (hu1.symm.trans hu)
    refine ⟨pq, _, 0, .str u1.1, rfl, rfl, SqT.of hpq, atI_nat (j := 0) rfl, ?_⟩
    clear hpq hu
    obtain ⟨u2, hu2⟩ := lt r1 m1
    refine ⟨_, rfl, _, rfl, 1, rfl, q1, _, _, .str (lastN r1), rfl, rfl, SqT.of E1, atI_last (by rw [List.length_map, List.getElem?_map, lst r1 m1]; rfl), n, dx, _, rfl, s4 _ _ h1, n, s, t, ts, ps, _, rfl, hn.same s4, fun u pq hu hpq => ?_, fun hu => by rw [hu2] at hu; cases hu⟩
    obtain rfl : u2 = u := Option.some.inj (hu2.symm.trans hu)
    refine ⟨pq, _, 1, .str u2.2, rfl, rfl, SqT.of hpq, atI_nat (j := 1) rfl, ?_⟩
    clear hpq hu
    obtain ⟨u3, hu3⟩ := lt r3 m3
    refine ⟨_, rfl, _, rfl, 1, rfl, q3, _, _, .str (lastN r3), rfl, rfl, SqT.of E3, atI_last (by rw [List.length_map, List.getElem?_map, lst r3 m3]; rfl), n, dx, _, rfl, s4 _ _ h1, n, s, t, ts, ps, _, rfl, hn.same s4, fun u pq hu hpq => ?_, fun hu => by rw [hu3] at hu; cases hu⟩
    obtain rfl : u3 = u := Option.some.inj (hu3.symm.trans hu)
    refine ⟨pq, _, 1, .str u3.2, rfl, rfl, SqT.of hpq, atI_nat (j := 1) rfl, ?_⟩
    clear hpq hu
    obtain ⟨u4, hu4⟩ := lt r2 m2
    refine ⟨_, rfl, _, rfl, 1, rfl, q2, _, _, .str (lastN r2), rfl, rfl, SqT.of E2, atI_last (by rw [List.length_map, List.getElem?_map, lst r2 m2]; rfl), n, dx, _, rfl, s4 _ _ h1, n, s, t, ts, ps, _, rfl, hn.same s4, fun u pq hu hpq => ?_, fun hu => by rw [hu4] at hu; cases hu⟩
    obtain rfl : u4 = u := Option.some.inj (hu4.symm.trans hu)
    refine ⟨pq, _, 1, .str u4.2, rfl, rfl, SqT.of hpq, atI_nat (j := 1) rfl, ?_⟩
    clear hpq hu
    have ee : pairEnds ts s t r1 r2 r3 = [(s, u1.1), (u1.1, u2.2), (u2.2, u4.2), (u1.1, u3.2), (u3.2, u4.2), (u2.2, u3.2), (u4.2, t)] := by
      unfold pairEnds tailOf headOf
      rw [hu1, hu2, hu3, hu4]
      rfl
    refine ⟨_, rfl, n, dx, _, rfl, s4 _ _ h1, ⟨n, s, t, ts, ps, rfl, hn.same s4, ?_⟩⟩
    refine ⟨_, rfl, by show 2 ≤ sizeLine; decide, fun T0 n0 => ?_⟩
    have z0 := same_upd (o := .tup [.str s, .str u1.1]) n0
    have x0 : (upd H4 T0 (.tup [.str s, .str u1.1])) T0 = some (.tup [.str s, .str u1.1]) := upd_same
    have s5 := s4.trans z0
    generalize upd H4 T0 (.tup [.str s, .str u1.1]) = H5 at x0 s5 z0 ⊢
    clear z0
    refine ⟨_, rfl, _, rfl, by show 2 ≤ sizeLine; decide, fun T1 n1 => ?_⟩
    have z1 := same_upd (o := .tup [.str u1.1, .str u2.2]) n1
    have x1 : (upd H5 T1 (.tup [.str u1.1, .str u2.2])) T1 = some (.tup [.str u1.1, .str u2.2]) := upd_same
    have s6 := s5.trans z1
    have x0 := z1 _ _ x0
    generalize upd H5 T1 (.tup [.str u1.1, .str u2.2]) = H6 at x0 x1 s6 z1 ⊢
    clear z1
    refine ⟨_, rfl, _, rfl, by show 2 ≤ sizeLine; decide, fun T2 n2 => ?_⟩
    have z2 := same_upd (o := .tup [.str u2.2, .str u4.2]) n2
    have x2 : (upd H6 T2 (.tup [.str u2.2, .str u4.2])) T2 = some (.tup [.str u2.2, .str u4.2]) := upd_same
    have s7 := s6.trans z2
    have x0 := z2 _ _ x0
    have x1 := z2 _ _ x1
    generalize upd H6 T2 (.tup [.str u2.2, .str u4.2]) = H7 at x0 x1 x2 s7 z2 ⊢
    clear z2
    refine ⟨_, rfl, _, rfl, by show 2 ≤ sizeLine; decide, fun T3 n3 => ?_⟩
    have z3 := same_upd (o := .tup [.str u1.1, .str u3.2]) n3
    have x3 : (upd H7 T3 (.tup [.str u1.1, .str u3.2])) T3 = some (.tup [.str u1.1, .str u3.2]) := upd_same
    have s8 := s7.trans z3
    have x0 := z3 _ _ x0
    have x1 := z3 _ _ x1
    have x2 := z3 _ _ x2
    generalize upd H7 T3 (.tup [.str u1.1, .str u3.2]) = H8 at x0 x1 x2 x3 s8 z3 ⊢
    clear z3
    refine ⟨_, rfl, _, rfl, by show 2 ≤ sizeLine; decide, fun T4 n4 => ?_⟩
    have z4 := same_upd (o := .tup [.str u3.2, .str u4.2]) n4
    have x4 : (upd H8 T4 (.tup [.str u3.2, .str u4.2])) T4 = some (.tup [.str u3.2, .str u4.2]) := upd_same
    have s9 := s8.trans z4
    have x0 := z4 _ _ x0
    have x1 := z4 _ _ x1
    have x2 := z4 _ _ x2
    have x3 := z4 _ _ x3
    generalize upd H8 T4 (.tup [.str u3.2, .str u4.2]) = H9 at x0 x1 x2 x3 x4 s9 z4 ⊢
    clear z4
    refine ⟨_, rfl, _, rfl, by show 2 ≤ sizeLine; decide, fun T5 n5 => ?_⟩
    have z5 := same_upd (o := .tup [.str u2.2, .str u3.2]) n5
    have x5 : (upd H9 T5 (.tup [.str u2.2, .str u3.2])) T5 = some (.tup [.str u2.2, .str u3.2]) := upd_same
    have s10 := s9.trans z5
    have x0 := z5 _ _ x0
    have x1 := z5 _ _ x1
    have x2 := z5 _ _ x2
    have x3 := z5 _ _ x3
    have x4 := z5 _ _ x4
    generalize upd H9 T5 (.tup [.str u2.2, .str u3.2]) = H10 at x0 x1 x2 x3 x4 x5 s10 z5 ⊢
    clear z5
    refine ⟨_, rfl, _, rfl, n, dx, _, rfl, s10 _ _ h1, ⟨n, s, t, ts, ps, rfl, hn.same s10, ?_⟩⟩
    refine ⟨by show 2 ≤ sizeLine; decide, fun T6 n6 => ?_⟩
    have z6 := same_upd (o := .tup [.str u4.2, .str t]) n6
    have x6 : (upd H10 T6 (.tup [.str u4.2, .str t])) T6 = some (.tup [.str u4.2, .str t]) := upd_same
    have s11 := s10.trans z6
    have x0 := z6 _ _ x0
    have x1 := z6 _ _ x1
    have x2 := z6 _ _ x2
    have x3 := z6 _ _ x3
    have x4 := z6 _ _ x4
    have x5 := z6 _ _ x5
    generalize upd H10 T6 (.tup [.str u4.2, .str t]) = H11 at x0 x1 x2 x3 x4 x5 x6 s11 z6 ⊢
    clear z6
    clear n0 n1 n2 n3 n4 n5 n6
    refine ⟨by show 7 ≤ sizeLine; decide, fun B nB => ?_⟩
    have sB := same_upd (o := .tup [.ref T0, .ref T1, .ref T2, .ref T3, .ref T4, .ref T5, .ref T6]) nB
    have pT : Paired (PairT H11) [T0, T1, T2, T3, T4, T5, T6] (pairEnds ts s t r1 r2 r3) := by
      rw [ee]
      exact .cons x0 (.cons x1 (.cons x2 (.cons x3 (.cons x4 (.cons x5 (.cons x6 .nil))))))
    have eB : (upd H11 B (.tup [.ref T0, .ref T1, .ref T2, .ref T3, .ref T4, .ref T5, .ref T6])) B = some (.tup ([T0, T1, T2, T3, T4, T5, T6].map V.ref)) := upd_same
    have s12 := s11.trans sB
    have pT : Paired (PairT (upd H11 B (.tup [.ref T0, .ref T1, .ref T2, .ref T3, .ref T4, .ref T5, .ref T6]))) [T0, T1, T2, T3, T4, T5, T6] (pairEnds ts s t r1 r2 r3) := pT.mono fun a b h => sB _ _ h
    generalize upd H11 B (.tup [.ref T0, .ref T1, .ref T2, .ref T3, .ref T4, .ref T5, .ref T6]) = H12 at s12 eB pT ⊢
    generalize hes : pairEnds ts s t r1 r2 r3 = es at pT ee
    have les : es.length = 7 := by rw [ee]; rfl
    have wes : ∀ e ∈ es, Wn e.1 := by
      have w1 := wn_found hw hu1
      have w2 := wn_found hw hu2
      have w3 := wn_found hw hu3
      have w4 := wn_found hw hu4
      rw [ee]
      simp only [List.mem_cons, List.not_mem_nil, or_false, forall_eq_or_imp, forall_eq]
      exact ⟨ws, w1.1, w2.2, w1.1, w3.2, w2.2, w4.2⟩
    clear sB x0 x1 x2 x3 x4 x5 x6 s11 s10 s9 s8 s7 s6 s5 nB eA nA
    dsimp only
    rw [show ∀ (x : V) (σ : L2.St) (H : Hp) (k : L2.St → Hp → Prop), gName 9 x σ H k = k (σ.set 9 (some x)) H from fun _ _ _ _ => rfl]
    dsimp only [L2.start, List.map, List.length_cons, List.length_nil, Nat.reduceAdd, Nat.reduceSub, List.replicate, List.cons_append, List.nil_append, List.set_cons_zero, List.set_cons_succ]
    refine ⟨_, rfl, _, rfl, p, B, _, _, rfl, .inr ⟨SqT.of (s12 _ _ ep), SqT.of eB, fun D nD => ?_⟩⟩
    refine lc_it (walk_zipT (n := 7) (K := K) (a := p) (b := B) (xs := [q0, q1, q2, q3, q4, q5, q6].map V.ref) (ys := [T0, T1, T2, T3, T4, T5, T6].map V.ref) rfl) (fun i H' => Same H12 H' ∧ H' D = some (.lst (((([r0, r1, r2, r3, r4, r5, r6].zip es).take i).map fun q => conB ts q.1 q.2.1 q.2.2).map V.bl))) ⟨same_upd nD, upd_same⟩ (fun i H' _ h => ⟨SqT.of (h.1 _ _ (s12 _ _ ep)), SqT.of (h.1 _ _ eB)⟩) ?_ ?_
    · rintro i x H1 H2 hi ⟨z1, eD⟩ ⟨Z, u, v, rfl, nZ, rfl, hu, hv⟩
      have hu : ([q0, q1, q2, q3, q4, q5, q6].map V.ref)[i]? = some u := hu
      have hv : ([T0, T1, T2, T3, T4, T5, T6].map V.ref)[i]? = some v := hv
      rw [List.getElem?_map] at hu hv
      cases hq : [q0, q1, q2, q3, q4, q5, q6][i]? with
      | none => rw [hq] at hu; cases hu
      | some q =>
      cases hT : [T0, T1, T2, T3, T4, T5, T6][i]? with
      | none => rw [hT] at hv; cases hv
      | some Ti =>
      rw [hq] at hu
      rw [hT] at hv
      obtain rfl := Option.some.inj hu
      obtain rfl := Option.some.inj hv
      obtain ⟨r, hr', er⟩ := pair_at pl hq
      obtain ⟨e, he', eT⟩ := pair_at pT hT
      have z2 := z1.trans (same_upd (o := .tup [.ref q, .ref Ti]) nZ)
      have eD := same_upd (o := .tup [.ref q, .ref Ti]) nZ _ _ eD
      have eT := z2 _ _ eT
      have er : (upd H1 Z (.tup [.ref q, .ref Ti])) q = some (.tup (r.map V.str)) := z2 _ _ (s12 _ _ er)
      have hrm := List.mem_of_getElem? hr'
      have hem := List.mem_of_getElem? he'
      refine ⟨Z, _, rfl, SqT.of upd_same, rfl, _, _, rfl, _, _, rfl, ⟨Ti, _, rfl, SqT.of eT, rfl, _, _, rfl, _, _, rfl, rfl, ?_⟩⟩
      generalize upd H1 Z (.tup [.ref q, .ref Ti]) = H2 at z2 eD eT er ⊢
      have hza : ([r0, r1, r2, r3, r4, r5, r6].zip es)[i]? = some (r, e) := by
        rw [List.getElem?_zip_eq_some]
        exact ⟨hr', he'⟩
      refine ⟨rfl, rfl, ?_⟩
      refine ⟨_, rfl, _, rfl, _, rfl, _, rfl, n, q, s, t, e.1, e.2, ts, ps, r, rfl, hn.same (s12.trans z2), er, Nat.le_trans (h100 r hrm) (by decide), kn r hrm, hw, wes e hem, fun H3 z3 => ?_⟩
      refine ⟨_, z3 _ _ eD, small1000 (by
        simp only [List.length_map, List.length_take, List.length_zip, les, List.length_cons, List.length_nil]
        omega), same_keep nD (z2.trans z3), ?_⟩
      rw [upd_same, take_more hza, List.map_append, List.map_append]
      rfl
    rintro H13 ⟨z13, eD⟩
    have eD : H13 D = some (.lst ((([r0, r1, r2, r3, r4, r5, r6].zip es).map fun q => conB ts q.1 q.2.1 q.2.2).map V.bl)) := by
      rw [eD, List.take_of_length_le (by rw [List.length_zip, les]; exact Nat.le_refl _)]
    have s13 := s12.trans z13
    have eB := z13 _ _ eB
    have pT := pT.mono fun a b (h : PairT H12 a b) => (z13 _ _ h : PairT H13 a b)
    refine ⟨D, _, rfl, SqL.of eD, _, rfl, ?_⟩
    have eall : ((([r0, r1, r2, r3, r4, r5, r6].zip es).map fun q => conB ts q.1 q.2.1 q.2.2).all id) = (([r0, r1, r2, r3, r4, r5, r6].zip es).all fun q => conB ts q.1 q.2.1 q.2.2) := by
      rw [List.all_map]
      rfl
    rw [eall]
    have epb : pairB ts s t [r0, r1, r2, r3, r4, r5, r6] = ((([r0, r1, r2, r3, r4, r5, r6].zip es).all fun q => conB ts q.1 q.2.1 q.2.2) && apartB (([r0, r1, r2, r3, r4, r5, r6].zip es).map fun q => stopsOf ts q.1 q.2.1)) := by
      unfold pairB
      show (!([r1, r2, r3, r4, r5].any fun r => decide (r.length = 0)) && ([r0, r1, r2, r3, r4, r5, r6].all fun r => r.all fun z => decide (z ∈ names ts)) && (([r0, r1, r2, r3, r4, r5, r6].zip (pairEnds ts s t r1 r2 r3)).all fun q => conB ts q.1 q.2.1 q.2.2) && apartB (([r0, r1, r2, r3, r4, r5, r6].zip (pairEnds ts s t r1 r2 r3)).map fun q => stopsOf ts q.1 q.2.1)) = _
      rw [hany, hk, hes]
      rfl
    cases hc : ([r0, r1, r2, r3, r4, r5, r6].zip es).all fun q => conB ts q.1 q.2.1 q.2.2 with
    | false =>
      refine iteT ?_
      have := k H13 s13
      rw [epb, hc] at this
      exact this
    | true =>
    refine iteF ?_
    rw [hc, Bool.true_and] at epb
    clear eall eD nD z13
    refine ⟨_, rfl, _, rfl, p, B, _, _, rfl, .inr ⟨SqT.of (s13 _ _ ep), SqT.of eB, fun D nD => ?_⟩⟩
    refine lc_it (walk_zipT (n := 7) (K := K) (a := p) (b := B) (xs := [q0, q1, q2, q3, q4, q5, q6].map V.ref) (ys := [T0, T1, T2, T3, T4, T5, T6].map V.ref) rfl) (fun i H' => Same H13 H' ∧ ∃ ls : List Addr, H' D = some (.lst (ls.map V.ref)) ∧ Paired (fun a b => RowS H' a b ∧ a ≠ D) ls ((([r0, r1, r2, r3, r4, r5, r6].zip es).take i).map fun q => stopsOf ts q.1 q.2.1)) ⟨same_upd nD, [], upd_same, .nil⟩ (fun i H' _ h => ⟨SqT.of (h.1 _ _ (s13 _ _ ep)), SqT.of (h.1 _ _ eB)⟩) ?_ ?_
    · rintro i x H1 H2 hi ⟨z1, ls, eL, pL⟩ ⟨Z, u, v, rfl, nZ, rfl, hu, hv⟩
      have hu : ([q0, q1, q2, q3, q4, q5, q6].map V.ref)[i]? = some u := hu
      have hv : ([T0, T1, T2, T3, T4, T5, T6].map V.ref)[i]? = some v := hv
      rw [List.getElem?_map] at hu hv
      cases hq : [q0, q1, q2, q3, q4, q5, q6][i]? with
      | none => rw [hq] at hu; cases hu
      | some q =>
      cases hT : [T0, T1, T2, T3, T4, T5, T6][i]? with
      | none => rw [hT] at hv; cases hv
      | some Ti =>
      rw [hq] at hu
      rw [hT] at hv
      obtain rfl := Option.some.inj hu
      obtain rfl := Option.some.inj hv
      obtain ⟨r, hr', er⟩ := pair_at pl hq
      obtain ⟨e, he', eT⟩ := pair_at pT hT
      have z2 := z1.trans (same_upd (o := .tup [.ref q, .ref Ti]) nZ)
      have eL := same_upd (o := .tup [.ref q, .ref Ti]) nZ _ _ eL
      have pL := pL.mono fun a b (h : RowS H1 a b ∧ a ≠ D) => (⟨same_upd (o := .tup [.ref q, .ref Ti]) nZ _ _ h.1, h.2⟩ : RowS (upd H1 Z (.tup [.ref q, .ref Ti])) a b ∧ a ≠ D)
      have eT := z2 _ _ eT
      have er : (upd H1 Z (.tup [.ref q, .ref Ti])) q = some (.tup (r.map V.str)) := z2 _ _ (s13 _ _ er)
      have hrm := List.mem_of_getElem? hr'
      have hem := List.mem_of_getElem? he'
      refine ⟨Z, _, rfl, SqT.of upd_same, rfl, _, _, rfl, _, _, rfl, ⟨Ti, _, rfl, SqT.of eT, rfl, _, _, rfl, _, _, rfl, rfl, ?_⟩⟩
      generalize upd H1 Z (.tup [.ref q, .ref Ti]) = H2 at z2 eL eT er pL ⊢
      have hza : ([r0, r1, r2, r3, r4, r5, r6].zip es)[i]? = some (r, e) := by
        rw [List.getElem?_zip_eq_some]
        exact ⟨hr', he'⟩
      refine ⟨rfl, rfl, ?_⟩
      refine ⟨_, rfl, _, rfl, _, rfl, n, q, s, t, e.1, ts, ps, r, rfl, hn.same (s13.trans z2), er, Nat.le_trans (h100 r hrm) (by decide), kn r hrm, fun L H3 z3 nL eL3 => ?_⟩
      refine ⟨_, z3 _ _ eL, small1000 (by
        have := pL.length
        simp only [List.length_map, List.length_take, List.length_zip, les, List.length_cons, List.length_nil] at this ⊢
        omega), same_keep nD (z2.trans z3), ls ++ [L], ?_, ?_⟩
      · rw [upd_same, List.map_append]
        rfl
      · rw [take_more hza, List.map_append]
        have keep : ∀ a b, RowS H3 a b → a ≠ D → RowS (upd H3 D (.lst (ls.map V.ref ++ [.ref L]))) a b ∧ a ≠ D := fun a b h hne => by
          unfold RowS at h ⊢
          rw [upd_ne hne]
          exact ⟨h, hne⟩
        have LD : L ≠ D := (ne_of_none eL nL).symm
        exact paired_app (pL.mono fun a b h => keep a b (z3 _ _ h.1) h.2) (.cons (keep _ _ eL3 LD) .nil)
    rintro H14 ⟨z14, ls, eL, pL⟩
    rw [List.take_of_length_le (by rw [List.length_zip, les]; exact Nat.le_refl _)] at pL
    refine ⟨D, _, rfl, ⟨ls, eL, pL.mono fun a b h => h.1⟩, by simp [les], ?_, fun H15 z15 => ?_⟩
    · intro r hr
      obtain ⟨q, hq, rfl⟩ := List.mem_map.mp hr
      have := h100 q.1 (List.of_mem_zip hq).1
      unfold stopsOf
      simp only [List.length_cons, List.length_map]
      omega
    · have := k H15 ((s13.trans z14).trans z15)
      rw [epb] at this
      exact this
end

/-! ### the paper of a bridged pair -/
section
variable {P : Program} {w : World} {K : PySem.W.Frag} {mg : Str → Option Value} {base : Heap}
def spNone : Sp := fun _ _ _ _ => False
def spPaper (C : Addr) : Sp := fun vs H Q _ => ∃ (n a p : Addr) (s t : Str) (ts : List Ent) (ps : List Str) (rows : List (List Str)), vs = [.ref n, .ref a] ∧ H a = some (.tup [.str "bridged", .ref p]) ∧ NetAt C H n s t ts ps ∧ SevenS H p rows ∧ rows.length = 7 ∧ (∀ r ∈ rows, r.length ≤ 100) ∧ (∀ e ∈ ts, WnE e) ∧ Wn s ∧ Wn t ∧
  ∀ H', Same H H' → Q (.bl (pairB ts s t rows)) H'
theorem ok_paper (T : Txt K mg) : FnOk P w K mg base CX0 101 T.f_check_paper T.d_check_paper ["network", "paper"] (spPaper T.f_Network) := by
  have G_check_pair := ok_pair (P := P) (w := w) (base := base) T
  have G_is_right : FnOk P w K mg base CX0 100 T.f_is_right T.d_is_right ["network", "plan"] spNone := T.F_is_right.ok sc_is_right (fun vs H Q E h => h.elim) (fun cdv A outer s0 H vs Q E hr h => h.elim)
  have G_is_tailed : FnOk P w K mg base CX0 99 T.f_is_tailed T.d_is_tailed ["plan"] spNone := T.F_is_tailed.ok sc_is_tailed (fun vs H Q E h => h.elim) (fun cdv A outer s0 H vs Q E hr h => h.elim)
  refine T.F_check_paper.ok sc_check_paper (fun vs H Q E h => ?_) (fun cdv A outer s0 H vs Q E hr h => ?_)
  · obtain ⟨n, a, p, s, t, ts, ps, rows, rfl, _⟩ := h
    rfl
  · obtain ⟨n, a, p, s, t, ts, ps, rows, rfl, ea, hn, hp, h7, h100, hw, ws, wt, k⟩ := h
    refine ⟨_, (pss_cons (ps_asg (pv 1) (pg_tup rfl (pgs_cons (pg_name (i := 2) sc_check_paper.nd rfl (Or.inl rfl)) (pgs_cons (pg_name (i := 3) sc_check_paper.nd rfl (Or.inl rfl)) pgs_nil))))
    (pss_cons (ps_if (pt_cmpR op_eq (pv 2) (pe_glob (v := V.str "bridged") rfl T.c_BRIDGED ⟨_, rfl⟩) (nomark _))
      (pss_one (ps_ret (pe_call G_check_pair (hr.mono (by decide)) rfl T.m_check_pair T.F_check_pair.kp T.b_check_pair .nil pass0 (pa_cons (pv 0) (pa_cons (pv 3) pa_nil)))))
      pss_nil)
    (pss_cons (ps_if (pt_not (pt_truth (pe_call G_is_right (hr.mono (by decide)) rfl T.m_is_right T.F_is_right.kp T.b_is_right .nil pass0 (pa_cons (pv 0) (pa_cons (pv 3) pa_nil))) (by intro _; rfl)))
      (pss_one (ps_ret pe_bl))
      pss_nil)
    (pss_one (ps_ret (pe_cmpR op_eq (pv 2) (pe_ifExp (pt_truth (pe_call G_is_tailed (hr.mono (by decide)) rfl T.m_is_tailed T.F_is_tailed.kp T.b_is_tailed .nil pass0 (pa_cons (pv 3) pa_nil)) (by intro _; rfl)) (pe_glob (v := V.str "tail") rfl T.c_TAIL ⟨_, rfl⟩) (pe_glob (v := V.str "woven") rfl T.c_WOVEN ⟨_, rfl⟩)) (nomark _))))))), ?_⟩
    refine ⟨_, rfl, a, _, rfl, SqT.of ea, rfl, _, _, rfl, _, _, rfl, rfl, ?_⟩
    refine ⟨_, rfl, rfl, _, rfl, iteT ?_⟩
    exact ⟨_, rfl, _, rfl, n, p, s, t, ts, ps, rows, rfl, hn, hp, h7, h100, hw, ws, wt, k⟩
end

section
variable {P : Program} {w : World} {K : PySem.W.Frag} {mg : Str → Option Value} {base : Heap}
theorem seqIx {n i : Nat} (h : i < n) : seqIndex? (i : Int) n = some i := by
  unfold seqIndex?
  rw [if_neg (show ¬ (i : Int) < 0 by omega)]
  dsimp only
  rw [if_pos (by simp; exact h)]
  rfl
theorem erase_at {α : Type} : ∀ {l : List α} {k : Nat} {y : α}, l[k]? = some y → (y :: l.eraseIdx k).Perm l
  | [], k, y, h => by simp at h
  | x :: l, 0, y, h => by
    obtain rfl : x = y := Option.some.inj h
    exact List.Perm.refl _
  | x :: l, k + 1, y, h => by
    have ih := erase_at (l := l) (k := k) (y := y) h
    exact (List.Perm.swap x y _).trans (ih.cons x)
def spShuf : Sp := fun vs H Q _ => ∃ (G : Hp) (st a : Addr) (m : Nat) (xs : List V), vs = [.ref st, .ref a] ∧ DSt G H st m ∧ m < 900000 ∧ G a = some (.lst xs) ∧ xs.length ≤ 30 ∧
  ∀ (l : Addr) (ys : List V) (H' : Hp), G l = none → DSt (upd G l (.lst ys)) H' st (m + xs.length) → ys.Perm xs → Q (.ref l) H'
theorem ok_shuf (T : Txt K mg) : FnOk P w K mg base CX0 2 T.f_shuffled T.d_shuffled ["_law_state", "_law_items"] spShuf := by
  have G_take : FnOk P w K mg base CX0 1 T.f_take T.d_take ["_law_state", "_law_limit"] spTake := ok_take T
  refine T.F_shuffled.ok sc_shuffled (fun vs H Q E h => ?_) (fun cdv A outer s H vs Q E hr h => ?_)
  · obtain ⟨G, st, a, m, xs, rfl, _⟩ := h
    rfl
  · obtain ⟨G, st, a, m, xs, rfl, d0, hm, ha, hx, k⟩ := h
    refine ⟨_, (pss_cons (ps_set (i := 2) sc_shuffled.nd rfl (Or.inl rfl) (pe_callTy call_list_of (by rfl) T.n_list (by decide +kernel) (pa_cons (pv 1) pa_nil)))
    (pss_cons (ps_set (i := 3) sc_shuffled.nd rfl (Or.inl rfl) (pe_lst pa_nil))
    (C8.pss_cut (ps_for PassesOwn.never rfl (pi_range1 rfl T.n_range (pa_cons (pe_callB call_len_seq (by rfl) T.n_len (by decide +kernel) (pa_cons (pv 1) pa_nil)) pa_nil)) (pg_name (i := 4) sc_shuffled.nd rfl (Or.inl rfl))
      (pss_one (ps_expr (pe_bm PySem.F.plainAttrs_list PySem.F.slot_list_append PySem.F.type_list_append mt_append (pv 3) (pa_cons (pe_bm PySem.F.plainAttrs_list PySem.F.slot_list_pop PySem.F.type_list_pop mt_popAt (pv 2) (pa_cons (pe_call G_take (hr.mono (by decide)) rfl T.m_take T.F_take.kp T.b_take .nil pass0 (pa_cons (pv 0) (pa_cons (pe_callB call_len_seq (by rfl) T.n_len (by decide +kernel) (pa_cons (pv 2) pa_nil)) pa_nil))) pa_nil)) pa_nil)))))
    (pss_one (ps_ret (pv 3)))))), ?_⟩
    refine ⟨_, rfl, a, _, rfl, .inl (SqL.of (d0.same _ _ ha)), fun R nR => ?_⟩
    have d1 := d0.new (o := .lst xs) nR
    refine ⟨Nat.zero_le _, fun L nL => ?_⟩
    have d2 := d1.new (o := .lst []) nL
    have nRG := d0.free nR
    have LR : L ≠ R := fun z => by rw [z, upd_same] at nL; cases nL
    rw [upd_ne LR] at nL
    have nLG := d0.free nL
    have aR : a ≠ R := fun z => by rw [z, nRG] at ha; cases ha
    have aL : a ≠ L := fun z => by rw [z, nLG] at ha; cases ha
    refine ⟨fun σ H' => ∃ x4 ys, σ = [some (.ref st), some (.ref a), some (.ref R), some (.ref L), x4] ∧ DSt (upd (upd G R (.lst [])) L (.lst ys)) H' st (m + xs.length) ∧ ys.Perm xs, ?_, ?_⟩
    · refine ⟨_, rfl, a, _, rfl, .inl (SqL.of (d2.same a _ (by rw [upd_ne aL, upd_ne aR]; exact ha))), _, rfl, by omega, by omega, ?_⟩
      refine for_range (lo := 0) (n := xs.length) (fun i σ H' => ∃ x4 ys zs, σ = [some (.ref st), some (.ref a), some (.ref R), some (.ref L), x4] ∧ DSt (upd (upd G R (.lst zs)) L (.lst ys)) H' st (m + i) ∧ (ys ++ zs).Perm xs ∧ ys.length = i) ⟨_, [], xs, rfl, d2, List.Perm.refl _, rfl⟩ ?_ ?_
      · rintro i σ H' hi ⟨x4, ys, zs, rfl, d, pm, hy⟩
        have hlen : ys.length + zs.length = xs.length := by rw [← List.length_append]; exact pm.length_eq
        have hR : (upd (upd G R (.lst zs)) L (.lst ys)) R = some (.lst zs) := by rw [upd_ne LR.symm, upd_same]
        have hL : (upd (upd G R (.lst zs)) L (.lst ys)) L = some (.lst ys) := upd_same
        refine ⟨_, rfl, .inl ⟨rfl, _, SqL.of (d.same _ _ hL)⟩, _, rfl, .inl ⟨rfl, _, SqL.of (d.same _ _ hR)⟩, _, rfl, _, rfl, R, _, rfl, .inl (SqL.of (d.same _ _ hR)), _, st, m + i, _, rfl, d, by omega, by omega, Int.lt_of_le_of_lt (b := 100) (by omega) (by decide), fun rp H1 r0 r1 d1 => ?_⟩
        obtain ⟨rn, rfl⟩ : ∃ rn : Nat, rp = (rn : Int) := ⟨rp.toNat, by omega⟩
        have hrn : rn < zs.length := by omega
        have hR1 := d1.same _ _ hR
        have hzn : zs[rn]? = some zs[rn] := List.getElem?_eq_getElem hrn
        refine ⟨R, zs, _, rn, zs[rn], rfl, rfl, hR1, by omega, by omega, seqIx hrn, hzn, ?_⟩
        have d2 := d1.put (p := R) (o := .lst (zs.eraseIdx rn)) hR
        have hL2 : (upd (upd (upd G R (.lst zs)) L (.lst ys)) R (.lst (zs.eraseIdx rn))) L = some (.lst ys) := by rw [upd_ne LR]; exact hL
        refine ⟨L, ys, zs[rn], rfl, rfl, d2.same _ _ hL2, small1000 (by omega), ?_⟩
        have d3 := d2.put (p := L) (o := .lst (ys ++ [zs[rn]])) hL2
        refine ⟨_, ys ++ [zs[rn]], zs.eraseIdx rn, rfl, ?_, ?_, by rw [List.length_append, hy]; rfl⟩
        · refine (d3.less fun c o hc => ?_).mono (by omega)
          by_cases e : c = L
          · rw [e] at hc ⊢; rw [upd_same] at hc ⊢; exact hc
          · rw [upd_ne e] at hc ⊢
            by_cases e2 : c = R
            · rw [e2] at hc ⊢; rw [upd_same] at hc ⊢; exact hc
            · rw [upd_ne e2] at hc ⊢
              rw [upd_ne e, upd_ne e2]; exact hc
        · rw [List.append_assoc]
          exact (List.Perm.append_left ys (erase_at hzn)).trans pm
      · rintro σ H' ⟨x4, ys, zs, rfl, d, pm, hy⟩
        have hz : zs = [] := by
          have := pm.length_eq
          rw [List.length_append, hy] at this
          cases zs with
          | nil => rfl
          | cons z r => rw [List.length_cons] at this; omega
        subst hz
        rw [List.append_nil] at pm
        exact ⟨x4, ys, rfl, d, pm⟩
    · rintro σ H' ⟨x4, ys, rfl, d, pm⟩
      refine ⟨_, rfl, k L ys H' nLG (d.less fun c o hc => ?_) pm⟩
      by_cases e : c = L
      · rw [e] at hc ⊢; exact (upd_same).trans (upd_same.symm.trans hc)
      · rw [upd_ne e] at hc ⊢
        rw [upd_ne (fun z => by rw [z, nRG] at hc; cases hc)]
        exact hc
end

/-! ### a grown network, by numbers -/
inductive Ld (ps : List (Nat × Nat)) : Nat → Nat → Prop
  | one {p : Nat × Nat} : p ∈ ps → Ld ps p.1 p.2
  | more {a : Nat} {p : Nat × Nat} : Ld ps a p.1 → p ∈ ps → Ld ps a p.2
theorem Ld.trans {ps : List (Nat × Nat)} {a b c : Nat} (h : Ld ps a b) (h2 : Ld ps b c) : Ld ps a c := by
  induction h2 with
  | one he => exact .more h he
  | more _ he ih => exact .more (ih h) he
theorem Ld.sub {ps qs : List (Nat × Nat)} {a b : Nat} (h : Ld ps a b) (s : ∀ p ∈ ps, Ld qs p.1 p.2) : Ld qs a b := by
  induction h with
  | one he => exact s _ he
  | more _ he ih => exact ih.trans (s _ he)
theorem Ld.edge {ps : List (Nat × Nat)} {a b : Nat} (h : (a, b) ∈ ps) : Ld ps a b := .one h
structure Grown (ps : List (Nat × Nat)) (ord : List Nat) : Prop where
  nd : ord.Nodup
  all : ∀ v, v ∈ ord ↔ v < ord.length
  two : 2 ≤ ord.length
  up : ∀ p ∈ ps, ∃ i j : Nat, ord[i]? = some p.1 ∧ ord[j]? = some p.2 ∧ i < j
  front : ∀ v ∈ ord, v = 0 ∨ Ld ps 0 v
  back : ∀ v ∈ ord, v = 1 ∨ Ld ps v 1
theorem Grown.start : Grown [(0, 1)] [0, 1] where
  nd := by decide
  all := fun v => by
    rw [List.mem_cons, List.mem_singleton]
    show _ ↔ v < 2
    omega
  two := Nat.le_refl _
  up := fun p hp => by
    rw [List.mem_singleton.mp hp]
    exact ⟨0, 1, rfl, rfl, by decide⟩
  front := fun v hv => by
    rcases List.mem_cons.mp hv with h | h
    · exact .inl h
    · rw [List.mem_singleton.mp h]
      exact .inr (.edge (List.mem_singleton.mpr rfl))
  back := fun v hv => by
    rcases List.mem_cons.mp hv with h | h
    · rw [h]
      exact .inr (.edge (List.mem_singleton.mpr rfl))
    · exact .inl (List.mem_singleton.mp h)
/-- a link more forward -/
theorem Grown.add {ps : List (Nat × Nat)} {ord : List Nat} (g : Grown ps ord) {a b i j : Nat} (hi : ord[i]? = some a) (hj : ord[j]? = some b) (h : i < j) : Grown (ps ++ [(a, b)]) ord where
  nd := g.nd
  all := g.all
  two := g.two
  up := fun p hp => by
    rcases List.mem_append.mp hp with hp | hp
    · exact g.up p hp
    · rw [List.mem_singleton.mp hp]
      exact ⟨i, j, hi, hj, h⟩
  front := fun v hv => (g.front v hv).imp id fun z => z.sub fun p hp => .one (List.mem_append_left _ hp)
  back := fun v hv => (g.back v hv).imp id fun z => z.sub fun p hp => .one (List.mem_append_left _ hp)
def insAt (ord : List Nat) (pos x : Nat) : List Nat := ord.take pos ++ [x] ++ ord.drop pos
theorem ins_lt {ord : List Nat} {pos x i v : Nat} (hp : pos ≤ ord.length) (hi : ord[i]? = some v) (h : i < pos) : (insAt ord pos x)[i]? = some v := by
  unfold insAt
  rw [List.append_assoc, List.getElem?_append_left (by rw [List.length_take]; omega), List.getElem?_take_of_lt h]
  exact hi
theorem ins_at {ord : List Nat} {pos x : Nat} (hp : pos ≤ ord.length) : (insAt ord pos x)[pos]? = some x := by
  unfold insAt
  have e : (ord.take pos).length = pos := by rw [List.length_take]; omega
  rw [List.append_assoc, List.getElem?_append_right (by omega), e, Nat.sub_self]
  rfl
theorem ins_ge {ord : List Nat} {pos x i v : Nat} (hp : pos ≤ ord.length) (hi : ord[i]? = some v) (h : pos ≤ i) : (insAt ord pos x)[i + 1]? = some v := by
  unfold insAt
  have e : (ord.take pos).length = pos := by rw [List.length_take]; omega
  rw [List.getElem?_append_right (by rw [List.length_append, e]; show pos + 1 ≤ i + 1; omega), List.length_append, e, List.getElem?_drop]
  show ord[pos + (i + 1 - (pos + 1))]? = some v
  rw [show pos + (i + 1 - (pos + 1)) = i from by omega]
  exact hi
theorem ins_mem {ord : List Nat} {pos x v : Nat} : v ∈ insAt ord pos x ↔ v ∈ ord ∨ v = x := by
  unfold insAt
  rw [List.mem_append, List.mem_append, List.mem_singleton]
  constructor
  · rintro ((h | h) | h)
    · exact .inl (List.mem_of_mem_take h)
    · exact .inr h
    · exact .inl (List.mem_of_mem_drop h)
  · rintro (h | h)
    · rw [← List.take_append_drop pos ord] at h
      rcases List.mem_append.mp h with h | h
      · exact .inl (.inl h)
      · exact .inr h
    · exact .inl (.inr h)
theorem ins_len {ord : List Nat} {pos x : Nat} : (insAt ord pos x).length = ord.length + 1 := by
  unfold insAt
  rw [List.length_append, List.length_append, List.length_take, List.length_drop]
  show min pos ord.length + 1 + _ = _
  omega
theorem ins_perm (ord : List Nat) (pos x : Nat) : (insAt ord pos x).Perm (x :: ord) := by
  unfold insAt
  have p : (ord.take pos ++ [x] ++ ord.drop pos).Perm ([x] ++ (ord.take pos ++ ord.drop pos)) := by
    rw [← List.append_assoc]
    exact (List.perm_append_comm).append_right _
  rw [List.take_append_drop] at p
  exact p
/-- the link at a spot is split by a new place -/
theorem Grown.split {ps : List (Nat × Nat)} {ord : List Nat} (g : Grown ps ord) {sp a b i j pos : Nat} (hs : ps[sp]? = some (a, b)) (hi : ord[i]? = some a) (hj : ord[j]? = some b) (h1 : i < pos) (h2 : pos ≤ j) :
    Grown (ps.set sp (a, ord.length) ++ [(ord.length, b)]) (insAt ord pos ord.length) := by
  have hjl := (List.getElem?_eq_some_iff.mp hj).1
  have hp : pos ≤ ord.length := by omega
  have hfresh : ord.length ∉ ord := fun z => Nat.lt_irrefl _ ((g.all _).mp z)
  have hsl := (List.getElem?_eq_some_iff.mp hs).1
  have m1 : (a, ord.length) ∈ ps.set sp (a, ord.length) ++ [(ord.length, b)] := List.mem_append_left _ (List.mem_of_getElem? (i := sp) (by rw [List.getElem?_set_self hsl]))
  have m2 : (ord.length, b) ∈ ps.set sp (a, ord.length) ++ [(ord.length, b)] := List.mem_append_right _ (List.mem_singleton.mpr rfl)
  have lift : ∀ p ∈ ps, Ld (ps.set sp (a, ord.length) ++ [(ord.length, b)]) p.1 p.2 := by
    intro p hpm
    obtain ⟨k, hk⟩ := List.mem_iff_getElem?.mp hpm
    by_cases e : k = sp
    · rw [e, hs] at hk
      rw [← Option.some.inj hk]
      exact .more (p := (ord.length, b)) (.one m1) m2
    · exact .one (List.mem_append_left _ (List.mem_of_getElem? (i := k) (by rw [List.getElem?_set_ne (Ne.symm e)]; exact hk)))
  have shift : ∀ {k v : Nat}, ord[k]? = some v → (insAt ord pos ord.length)[if k < pos then k else k + 1]? = some v := by
    intro k v hk
    split
    · exact ins_lt hp hk (by assumption)
    · exact ins_ge hp hk (by omega)
  have ha : a ∈ ord := List.mem_of_getElem? hi
  have hb : b ∈ ord := List.mem_of_getElem? hj
  refine ⟨?_, ?_, ?_, ?_, ?_, ?_⟩
  · exact (ins_perm ord pos ord.length).nodup_iff.mpr (List.nodup_cons.mpr ⟨hfresh, g.nd⟩)
  · intro v
    rw [ins_mem, ins_len, g.all]
    omega
  · rw [ins_len]; have := g.two; omega
  · intro p hpm
    rcases List.mem_append.mp hpm with h | h
    · rcases List.mem_or_eq_of_mem_set h with h | h
      · obtain ⟨x, y, e1, e2, l⟩ := g.up p h
        refine ⟨_, _, shift e1, shift e2, ?_⟩
        split <;> split <;> omega
      · rw [h]
        exact ⟨i, pos, ins_lt hp hi h1, ins_at hp, h1⟩
    · rw [List.mem_singleton.mp h]
      exact ⟨pos, j + 1, ins_at hp, ins_ge hp hj h2, by omega⟩
  · intro v hv
    rcases ins_mem.mp hv with h | h
    · exact (g.front v h).imp id fun z => z.sub lift
    · rw [h]
      refine .inr ?_
      rcases g.front a ha with z | z
      · rw [← z]; exact .one m1
      · exact (z.sub lift).trans (.one m1)
  · intro v hv
    rcases ins_mem.mp hv with h | h
    · exact (g.back v h).imp id fun z => z.sub lift
    · rw [h]
      refine .inr ?_
      rcases g.back b hb with z | z
      · rw [← z]; exact .one m2
      · exact Ld.trans (.one m2) (z.sub lift)

/-- pairs of numbers in a list -/
def PairAt (H : Hp) (q : Addr) (p : Nat × Nat) : Prop := H q = some (.tup [.int (p.1 : Int), .int (p.2 : Int)])
def PairsAt (H : Hp) (l : Addr) (ps : List (Nat × Nat)) : Prop := ∃ qs : List Addr, H l = some (.lst (qs.map V.ref)) ∧ Paired (PairAt H) qs ps
theorem PairsAt.on {H H' : Hp} {l : Addr} {ps : List (Nat × Nat)} (h : PairsAt H l ps) (s : Same H H') : PairsAt H' l ps := let ⟨qs, a, b⟩ := h; ⟨qs, s _ _ a, paired_on (fun _ _ e => s _ _ e) b⟩
structure GrownAt (G0 G : Hp) (o l : Addr) (ps : List (Nat × Nat)) (ord : List Nat) : Prop where
  sm : Same G0 G
  fo : G0 o = none
  fl : G0 l = none
  ne : o ≠ l
  ho : G o = some (.lst (ord.map fun v : Nat => V.int (v : Int)))
  hp : PairsAt G l ps
/-- a new tuple comes, the list of pairs changes -/
theorem pairs_put {G : Hp} {l q : Addr} {qs qs' : List Addr} {ps' : List (Nat × Nat)} (hl : G l = some (.lst (qs.map V.ref))) (h : Paired (PairAt G) qs' ps') : PairsAt (upd G l (.lst (qs'.map V.ref))) l ps' :=
  ⟨qs', upd_same, paired_on (fun a b e => by show upd _ _ _ _ = _; rw [upd_ne (fun z => by rw [z] at e; rw [show G l = _ from e] at hl; cases hl)]; exact e) h⟩
theorem GrownAt.setP {G0 G : Hp} {o l : Addr} {ps ps' : List (Nat × Nat)} {ord : List Nat} {qs' : List Addr} (g : GrownAt G0 G o l ps ord) (h : Paired (PairAt G) qs' ps') : GrownAt G0 (upd G l (.lst (qs'.map V.ref))) o l ps' ord where
  sm := same_mut g.sm g.fl
  fo := g.fo
  fl := g.fl
  ne := g.ne
  ho := by rw [upd_ne g.ne]; exact g.ho
  hp := let ⟨qs, a, _⟩ := g.hp; pairs_put (q := l) a h
theorem GrownAt.setO {G0 G : Hp} {o l : Addr} {ps : List (Nat × Nat)} {ord ord' : List Nat} (g : GrownAt G0 G o l ps ord) : GrownAt G0 (upd G o (.lst (ord'.map fun v : Nat => V.int (v : Int)))) o l ps ord' where
  sm := same_mut g.sm g.fo
  fo := g.fo
  fl := g.fl
  ne := g.ne
  ho := upd_same
  hp := let ⟨qs, a, b⟩ := g.hp; ⟨qs, by rw [upd_ne g.ne.symm]; exact a, paired_on (fun x y e => by show upd _ _ _ _ = _; rw [upd_ne (fun z => by rw [z] at e; have e2 : G o = _ := e; rw [g.ho] at e2; cases e2)]; exact e) b⟩
theorem GrownAt.new {G0 G : Hp} {o l q : Addr} {u : HO} {ps : List (Nat × Nat)} {ord : List Nat} (g : GrownAt G0 G o l ps ord) (nq : G q = none) : GrownAt G0 (upd G q u) o l ps ord where
  sm := g.sm.trans (same_upd nq)
  fo := g.fo
  fl := g.fl
  ne := g.ne
  ho := same_upd nq _ _ g.ho
  hp := g.hp.on (same_upd nq)
theorem app_pair {G0 G1 H3 : Hp} {st o l t : Addr} {m : Nat} {ps : List (Nat × Nat)} {ord : List Nat} {qs : List Addr} (d : DSt G1 H3 st m) (ga : GrownAt G0 G1 o l ps ord) (hl : G1 l = some (.lst (qs.map V.ref))) (hp : Paired (PairAt G1) qs ps) (nt : H3 t = none) (a b : Nat) :
    DSt (upd (upd G1 t (.tup [.int (a : Int), .int (b : Int)])) l (.lst (qs.map V.ref ++ [.ref t]))) (upd (upd H3 t (.tup [.int (a : Int), .int (b : Int)])) l (.lst (qs.map V.ref ++ [.ref t]))) st m ∧
      GrownAt G0 (upd (upd G1 t (.tup [.int (a : Int), .int (b : Int)])) l (.lst (qs.map V.ref ++ [.ref t]))) o l (ps ++ [(a, b)]) ord := by
  have ntG := d.free nt
  have lt : l ≠ t := ne_of_none hl ntG
  refine ⟨(d.new nt).put (p := l) (u := .lst (qs.map V.ref)) (by rw [upd_ne lt]; exact hl), ?_⟩
  have hp' : Paired (PairAt (upd G1 t (.tup [.int (a : Int), .int (b : Int)]))) qs ps := paired_on (fun _ _ e => same_upd ntG _ _ e) hp
  have h1 : PairAt (upd G1 t (.tup [.int (a : Int), .int (b : Int)])) t (a, b) := upd_same
  have g := (ga.new (u := .tup [.int (a : Int), .int (b : Int)]) ntG).setP (paired_snoc h1 hp')
  rw [List.map_append] at g
  exact g
theorem index_ints {ord : List Nat} (nd : ord.Nodup) {v j : Nat} (hj : ord[j]? = some v) : (ord.map fun v : Nat => V.int (v : Int))[j]? = some (V.int (v : Int)) ∧ eqV (V.int (v : Int)) (V.int (v : Int)) = true ∧ ∀ (m : Nat) (z' : V), m < j → (ord.map fun v : Nat => V.int (v : Int))[m]? = some z' → eqV z' (V.int (v : Int)) = false := by
  refine ⟨by rw [List.getElem?_map, hj]; rfl, by show ((v : Int) == (v : Int)) = true; simp, fun m z' hm hz => ?_⟩
  rw [List.getElem?_map] at hz
  cases e : ord[m]? with
  | none => rw [e] at hz; cases hz
  | some x =>
    rw [e] at hz
    have ez : V.int (x : Int) = z' := Option.some.inj hz
    subst ez
    have hne : x ≠ v := fun z => by
      obtain ⟨h1, e1⟩ := List.getElem?_eq_some_iff.mp e
      obtain ⟨h2, e2⟩ := List.getElem?_eq_some_iff.mp hj
      exact List.pairwise_iff_getElem.mp nd m j h1 h2 hm (by rw [e1, e2, z])
    show ((x : Int) == (v : Int)) = false
    exact beq_false_of_ne (by omega)
theorem paired_set {α β : Type} {F : α → β → Prop} {a : α} {b : β} (h : F a b) : ∀ {xs : List α} {ys : List β} {i : Nat}, Paired F xs ys → Paired F (xs.set i a) (ys.set i b)
  | _, _, _, .nil => .nil
  | _ :: _, _ :: _, 0, .cons _ r => .cons h r
  | _ :: _, _ :: _, _ + 1, .cons p r => .cons p (paired_set h r)
theorem flat_nats (ord : List Nat) : (ord.map fun v : Nat => V.int (v : Int)).all flatV = true := by
  rw [List.all_map]
  exact List.all_eq_true.mpr fun _ _ => rfl

structure NamesOk (ws : List Str) (n : Nat) : Prop where
  len : ws.length = n
  nd : ws.Nodup
  ok : ∀ z ∈ ws, vn z = true ∧ Wn z

/-! ### links that make a network -/
structure NetOk (es : List Ent) (s t : Str) (mo : Nat) : Prop where
  few : 1 ≤ es.length
  nd : (names es).Nodup
  ok : ∀ e ∈ es, (vn e.1 = true ∧ vn e.2.1 = true ∧ vn e.2.2 = true) ∧ WnE e
  hs : vn s = true ∧ Wn s
  ht : vn t = true ∧ Wn t
  ne : s ≠ t
  acy : ∀ p, ¬ Lead es p p
  use : ∀ e ∈ es, Useful es s t e
  sp : ∃ sp : List Str, sp.length ≤ mo ∧ s ∈ sp ∧ t ∈ sp ∧ ∀ e ∈ es, e.2.1 ∈ sp ∧ e.2.2 ∈ sp
theorem Useful.mono {es fs : List Ent} {s t : Str} {e : Ent} (h : Useful es s t e) (m : ∀ e ∈ es, e ∈ fs) : Useful fs s t e := ⟨h.1.imp id fun z => z.mono m, h.2.imp id fun z => z.mono m⟩
theorem NetOk.perm {es fs : List Ent} {s t : Str} {mo : Nat} (h : NetOk es s t mo) (p : fs.Perm es) : NetOk fs s t mo where
  few := by rw [p.length_eq]; exact h.few
  nd := (p.map fun e : Ent => e.1).nodup_iff.mpr h.nd
  ok := fun e he => h.ok e (p.mem_iff.mp he)
  hs := h.hs
  ht := h.ht
  ne := h.ne
  acy := fun q z => h.acy q (z.mono fun e he => p.mem_iff.mp he)
  use := fun e he => (h.use e (p.mem_iff.mp he)).mono fun e he => p.mem_iff.mpr he
  sp := let ⟨sp, a, b, c, d⟩ := h.sp; ⟨sp, a, b, c, fun e he => d e (p.mem_iff.mp he)⟩
def rowAt (ls ws : List Str) (ps : List (Nat × Nat)) (k : Nat) : Ent := (ls.getD k "", ws.getD (ps.getD k (0, 0)).1 "", ws.getD (ps.getD k (0, 0)).2 "")
def rowsOf (ls ws : List Str) (ps : List (Nat × Nat)) : List Ent := (List.range ps.length).map (rowAt ls ws ps)
theorem getD_of {α : Type} {l : List α} {i : Nat} {x d : α} (h : l[i]? = some x) : l.getD i d = x := by rw [List.getD_eq_getElem?_getD, h]; rfl
theorem row_pair {ls ws : List Str} {ps : List (Nat × Nat)} {p : Nat × Nat} (h : p ∈ ps) : ∃ l, (l, ws.getD p.1 "", ws.getD p.2 "") ∈ rowsOf ls ws ps := by
  obtain ⟨k, hk⟩ := List.mem_iff_getElem?.mp h
  refine ⟨ls.getD k "", List.mem_map.mpr ⟨k, List.mem_range.mpr (List.getElem?_eq_some_iff.mp hk).1, ?_⟩⟩
  unfold rowAt
  rw [getD_of hk]
theorem row_of {ls ws : List Str} {ps : List (Nat × Nat)} {e : Ent} (h : e ∈ rowsOf ls ws ps) : ∃ p ∈ ps, e.2.1 = ws.getD p.1 "" ∧ e.2.2 = ws.getD p.2 "" ∧ ∃ k < ps.length, e.1 = ls.getD k "" := by
  obtain ⟨k, hk, rfl⟩ := List.mem_map.mp h
  have hk := List.mem_range.mp hk
  refine ⟨ps[k], List.getElem_mem hk, ?_, ?_, k, hk, rfl⟩
  · unfold rowAt; rw [getD_of (List.getElem?_eq_getElem hk)]
  · unfold rowAt; rw [getD_of (List.getElem?_eq_getElem hk)]
theorem lead_of {ls ws : List Str} {ps : List (Nat × Nat)} {a b : Nat} (h : Ld ps a b) : Lead (rowsOf ls ws ps) (ws.getD a "") (ws.getD b "") := by
  induction h with
  | one hp =>
    obtain ⟨l, hl⟩ := row_pair (ls := ls) (ws := ws) hp
    exact Lead.one hl
  | more _ hp ih =>
    obtain ⟨l, hl⟩ := row_pair (ls := ls) (ws := ws) hp
    exact Lead.more ih hl
theorem names_rows {ls ws : List Str} {ps : List (Nat × Nat)} (h : ls.length = ps.length) : names (rowsOf ls ws ps) = ls := by
  unfold names rowsOf
  rw [List.map_map]
  refine List.ext_getElem? fun k => ?_
  rw [List.getElem?_map]
  by_cases hk : k < ps.length
  · rw [List.getElem?_range hk, List.getElem?_eq_getElem (by omega)]
    show some (ls.getD k "") = _
    rw [getD_of (List.getElem?_eq_getElem (by omega))]
  · rw [List.getElem?_eq_none (by rw [List.length_range]; omega), List.getElem?_eq_none (by omega)]
    rfl
theorem getD_inj {ws : List Str} (nd : ws.Nodup) {a b : Nat} (ha : a < ws.length) (hb : b < ws.length) (h : ws.getD a "" = ws.getD b "") : a = b := by
  rw [getD_of (List.getElem?_eq_getElem ha), getD_of (List.getElem?_eq_getElem hb)] at h
  rcases Nat.lt_trichotomy a b with z | z | z
  · exact absurd h (List.pairwise_iff_getElem.mp nd a b ha hb z)
  · exact z
  · exact absurd h.symm (List.pairwise_iff_getElem.mp nd b a hb ha z)
theorem rows_ok {ls ws : List Str} {ps : List (Nat × Nat)} {ord : List Nat} {mo : Nat} (g : Grown ps ord) (hw : NamesOk ws ord.length) (hl : ls.length = ps.length) (nl : ls.Nodup) (okl : ∀ z ∈ ls, vn z = true ∧ Wn z) (hps : 1 ≤ ps.length) (hmo : ord.length ≤ mo) :
    NetOk (rowsOf ls ws ps) (ws.getD 0 "") (ws.getD 1 "") mo := by
  have two := g.two
  have inw : ∀ v ∈ ord, v < ws.length := fun v hv => by rw [hw.len]; exact (g.all v).mp hv
  have memw : ∀ {v : Nat}, v < ws.length → ws.getD v "" ∈ ws := fun {v} hv => by rw [getD_of (List.getElem?_eq_getElem hv)]; exact List.getElem_mem hv
  have okw : ∀ {v : Nat}, v < ws.length → vn (ws.getD v "") = true ∧ Wn (ws.getD v "") := fun hv => hw.ok _ (memw hv)
  have pin : ∀ p ∈ ps, p.1 ∈ ord ∧ p.2 ∈ ord := fun p hp => by
    obtain ⟨i, j, e1, e2, _⟩ := g.up p hp
    exact ⟨List.mem_of_getElem? e1, List.mem_of_getElem? e2⟩
  have up : ∀ {p q : Str}, Lead (rowsOf ls ws ps) p q → ∃ a b i j : Nat, p = ws.getD a "" ∧ q = ws.getD b "" ∧ ord[i]? = some a ∧ ord[j]? = some b ∧ i < j := by
    intro p q h
    induction h with
    | one he =>
      obtain ⟨p, hp, e1, e2, _⟩ := row_of he
      obtain ⟨i, j, h1, h2, l⟩ := g.up p hp
      exact ⟨p.1, p.2, i, j, e1, e2, h1, h2, l⟩
    | more _ he ih =>
      obtain ⟨a, b, i, j, e1, e2, h1, h2, l⟩ := ih
      obtain ⟨p, hp, f1, f2, _⟩ := row_of he
      obtain ⟨i', j', g1, g2, l'⟩ := g.up p hp
      have eb : b = p.1 := getD_inj hw.nd (inw b (List.mem_of_getElem? h2)) (inw _ (List.mem_of_getElem? g1)) (e2.symm.trans f1)
      have ej : j = i' := by
        rw [eb] at h2
        obtain ⟨x1, y1⟩ := List.getElem?_eq_some_iff.mp h2
        obtain ⟨x2, y2⟩ := List.getElem?_eq_some_iff.mp g1
        rcases Nat.lt_trichotomy j i' with z | z | z
        · exact absurd (y1.trans y2.symm) (List.pairwise_iff_getElem.mp g.nd j i' x1 x2 z)
        · exact z
        · exact absurd (y2.trans y1.symm) (List.pairwise_iff_getElem.mp g.nd i' j x2 x1 z)
      exact ⟨a, p.2, i, j', e1, f2, h1, g2, by omega⟩
  refine ⟨by unfold rowsOf; rw [List.length_map, List.length_range]; exact hps, by rw [names_rows hl]; exact nl, fun e he => ?_, okw (by rw [hw.len]; omega), okw (by rw [hw.len]; omega), fun z => ?_, fun p h => ?_, fun e he => ?_, ws, by rw [hw.len]; exact hmo, memw (by rw [hw.len]; omega), memw (by rw [hw.len]; omega), fun e he => ?_⟩
  · obtain ⟨p, hp, e1, e2, k, hk, e3⟩ := row_of he
    have h1 := okw (inw _ (pin p hp).1)
    have h2 := okw (inw _ (pin p hp).2)
    have h3 := okl (ls.getD k "") (by rw [getD_of (List.getElem?_eq_getElem (show k < ls.length by omega))]; exact List.getElem_mem _)
    rw [← e1] at h1
    rw [← e2] at h2
    rw [← e3] at h3
    exact ⟨⟨h3.1, h1.1, h2.1⟩, h3.2, h1.2, h2.2⟩
  · have := getD_inj hw.nd (by rw [hw.len]; omega) (by rw [hw.len]; omega) z
    omega
  · obtain ⟨a, b, i, j, e1, e2, h1, h2, l⟩ := up h
    have eb : a = b := getD_inj hw.nd (inw a (List.mem_of_getElem? h1)) (inw b (List.mem_of_getElem? h2)) (e1.symm.trans e2)
    rw [eb] at h1
    obtain ⟨x1, y1⟩ := List.getElem?_eq_some_iff.mp h1
    obtain ⟨x2, y2⟩ := List.getElem?_eq_some_iff.mp h2
    exact absurd (y1.trans y2.symm) (List.pairwise_iff_getElem.mp g.nd i j x1 x2 l)
  · obtain ⟨p, hp, e1, e2, _⟩ := row_of he
    obtain ⟨m1, m2⟩ := pin p hp
    refine ⟨?_, ?_⟩
    · rw [e1]
      exact (g.front _ m1).imp (fun z => by rw [z]) fun z => lead_of z
    · rw [e2]
      exact (g.back _ m2).imp (fun z => by rw [z]) fun z => lead_of z
  · obtain ⟨p, hp, e1, e2, _⟩ := row_of he
    obtain ⟨m1, m2⟩ := pin p hp
    rw [e1, e2]
    exact ⟨memw (inw _ m1), memw (inw _ m2)⟩
/-! what the checks of such links say -/
theorem bad_none {zs : List Str} (h : ∀ z ∈ zs, vn z = true) : bad zs = none := by
  unfold bad
  rw [List.find?_eq_none]
  intro z hz
  rw [h z hz]
  decide
theorem nm_none : ∀ {es : List Ent} {ks : List Str}, (names es).Nodup → (∀ e ∈ es, e.1 ∉ ks) → (∀ e ∈ es, vn e.1 = true ∧ vn e.2.1 = true ∧ vn e.2.2 = true) → nmErr ks es = none
  | [], _, _, _, _ => rfl
  | e :: r, ks, nd, hk, ok => by
    have nd' : (e.1 :: names r).Nodup := nd
    obtain ⟨n1, n2⟩ := List.nodup_cons.mp nd'
    obtain ⟨o1, o2, o3⟩ := ok e List.mem_cons_self
    unfold nmErr
    rw [if_pos o1, if_neg (hk e List.mem_cons_self), bad_none (zs := [e.2.1, e.2.2]) (fun z hz => by
      rcases List.mem_cons.mp hz with h | h
      · rw [h]; exact o2
      · rw [List.mem_singleton.mp h]; exact o3)]
    refine nm_none n2 (fun f hf z => ?_) fun f hf => ok f (List.mem_cons_of_mem _ hf)
    rcases List.mem_append.mp z with z | z
    · exact hk f (List.mem_cons_of_mem _ hf) z
    · exact n1 (List.mem_map.mpr ⟨f, hf, List.mem_singleton.mp z⟩)
theorem NetOk.early {es : List Ent} {s t : Str} {mo : Nat} (h : NetOk es s t mo) (h10 : es.length ≤ 10) : earlyErr es s t = none := by
  unfold earlyErr
  rw [if_pos ⟨h.few, h10⟩, bad_none (zs := [s, t]) (fun z hz => by
    rcases List.mem_cons.mp hz with e | e
    · rw [e]; exact h.hs.1
    · rw [List.mem_singleton.mp e]; exact h.ht.1)]
  show (if s = t then _ else _) = _
  rw [if_neg h.ne, nm_none h.nd (fun _ _ => List.not_mem_nil) fun e he => (h.ok e he).1]
theorem NetOk.late {es : List Ent} {s t : Str} {mo : Nat} (h : NetOk es s t mo) : lateErr es s t = none := by
  have h1 : rdErr es = none := by
    unfold rdErr
    rw [List.find?_eq_none.mpr fun e he z => ?_]
    · rfl
    · exact h.acy _ ((of_round z).trans (.one he))
  have h2 : useErr es s t = none := by
    unfold useErr
    rw [List.find?_eq_none.mpr fun e he => by rw [useful_yes (h.use e he)]; decide]
    rfl
  unfold lateErr
  rw [h1]
  show (match useErr es s t with | some z => _ | none => _) = _
  rw [h2]
theorem NetOk.eight {es : List Ent} {s t : Str} {mo : Nat} (h : NetOk es s t mo) {ps : List Str} (hp : Places es s t ps) : ps.length ≤ mo := by
  obtain ⟨sp, a, b, c, d⟩ := h.sp
  refine Nat.le_trans (nd_len (places_nodup hp h.ne) fun q hq => ?_) a
  obtain ⟨ys, rfl, _, _, hm⟩ := hp
  rcases List.mem_cons.mp hq with z | z
  · rw [z]; exact b
  · rcases List.mem_append.mp z with z | z
    · have := ((hm q).mp z).1
      unfold endsOf at this
      obtain ⟨e, he, hq⟩ := List.mem_flatMap.mp this
      rcases List.mem_cons.mp hq with z | z
      · rw [z]; exact (d e he).1
      · rw [List.mem_singleton.mp z]; exact (d e he).2
    · rw [List.mem_singleton.mp z]; exact c

def RowT (H : Hp) (q : Addr) (e : Ent) : Prop := H q = some (.tup [.str e.1, .str e.2.1, .str e.2.2])
/-- links as a list of tuples -/
def RowsL (H : Hp) (l : Addr) (es : List Ent) : Prop := ∃ qs : List Addr, H l = some (.lst (qs.map V.ref)) ∧ Paired (RowT H) qs es
theorem RowsL.on {H H' : Hp} {l : Addr} {es : List Ent} (h : RowsL H l es) (s : Same H H') : RowsL H' l es := let ⟨qs, a, b⟩ := h; ⟨qs, s _ _ a, paired_on (fun _ _ e => s _ _ e) b⟩
theorem RowsL.rows {K : PySem.W.Frag} {H : Hp} {l : Addr} {es : List Ent} (h : RowsL H l es) : Rows K H l es := let ⟨qs, a, b⟩ := h; ⟨qs, .inl (SqL.of a), paired_on (fun _ _ e => .inl (SqT.of e)) b⟩
/-- a row more -/
theorem rows_put {G H : Hp} {st D U : Addr} {m : Nat} {qs : List Addr} {es : List Ent} {e : Ent} (d : DSt G H st m) (hD : G D = some (.lst (qs.map V.ref))) (hp : Paired (RowT G) qs es) (nU : H U = none) :
    DSt (upd (upd G U (.tup [.str e.1, .str e.2.1, .str e.2.2])) D (.lst (qs.map V.ref ++ [V.ref U]))) (upd (upd H U (.tup [.str e.1, .str e.2.1, .str e.2.2])) D (.lst (qs.map V.ref ++ [V.ref U]))) st m ∧
      (upd (upd G U (.tup [.str e.1, .str e.2.1, .str e.2.2])) D (.lst (qs.map V.ref ++ [V.ref U]))) D = some (.lst ((qs ++ [U]).map V.ref)) ∧
      Paired (RowT (upd (upd G U (.tup [.str e.1, .str e.2.1, .str e.2.2])) D (.lst (qs.map V.ref ++ [V.ref U])))) (qs ++ [U]) (es ++ [e]) := by
  have nG := d.free nU
  have DU : D ≠ U := ne_of_none hD nG
  have up : ∀ c o, (upd G U (.tup [.str e.1, .str e.2.1, .str e.2.2])) c = some (.tup o) → (upd (upd G U (.tup [.str e.1, .str e.2.1, .str e.2.2])) D (.lst (qs.map V.ref ++ [V.ref U]))) c = some (.tup o) := fun c o hc => by
    rw [upd_ne (fun z => by rw [z, upd_ne DU, hD] at hc; cases hc)]
    exact hc
  refine ⟨(d.new nU).put (p := D) (u := .lst (qs.map V.ref)) (by rw [upd_ne DU]; exact hD), by rw [upd_same, List.map_append]; rfl, ?_⟩
  exact paired_snoc (show RowT _ U e from up _ _ upd_same) (paired_on (fun _ _ h => up _ _ (same_upd nG _ _ h)) hp)
theorem paired_perm {α β : Type} {F : α → β → Prop} : ∀ {xs xs' : List α} {ys : List β}, xs'.Perm xs → Paired F xs ys → ∃ ys' : List β, ys'.Perm ys ∧ Paired F xs' ys'
  | _, _, _, .nil, .nil => ⟨[], .nil, .nil⟩
  | _, _, _, .cons x p, .cons (b := y) a r => let ⟨ys', q, r'⟩ := paired_perm p r; ⟨y :: ys', q.cons y, .cons a r'⟩
  | _, _, _, .swap x y l, .cons (b := b1) a1 (.cons (b := b2) a2 r) => ⟨b2 :: b1 :: _, .swap _ _ _, .cons a2 (.cons a1 r)⟩
  | _, _, _, .trans p1 p2, h => let ⟨ys1, q1, r1⟩ := paired_perm p2 h; let ⟨ys2, q2, r2⟩ := paired_perm p1 r1; ⟨ys2, q2.trans q1, r2⟩
theorem paired_map {α β : Type} (f : α → β) : ∀ xs : List α, Paired (fun y x => y = f x) (xs.map f) xs
  | [] => .nil
  | x :: xs => .cons rfl (paired_map f xs)
theorem map_of_paired {α β : Type} {f : α → β} : ∀ {ys : List β} {xs : List α}, Paired (fun y x => y = f x) ys xs → ys = xs.map f
  | _, _, .nil => rfl
  | _, _, .cons a r => by rw [List.map_cons, ← map_of_paired r, a]
theorem map_perm_inv {α β : Type} {f : α → β} {xs : List α} {ys : List β} (h : ys.Perm (xs.map f)) : ∃ zs : List α, zs.Perm xs ∧ ys = zs.map f :=
  let ⟨zs, p, r⟩ := paired_perm h (paired_map f xs); ⟨zs, p, map_of_paired r⟩

/-! ### rows as data -/
def rowD (e : Ent) : PyData := .tuple [.str e.1, .str e.2.1, .str e.2.2]
theorem shaped_rows {es : List Ent} (h : ∀ e ∈ es, WnE e) : SeqAt.shaped (.list (es.map rowD)) = true := by
  refine shaped_l (n := 1) (by decide) (fun e he => ?_) fun e _ => ?_
  · have w := h e he
    show PyData.canLay0 (.tuple [.str e.1, .str e.2.1, .str e.2.2]) = true
    simp only [PyData.canLay0]
    show ((PyData.str e.1).canLay0 && ((PyData.str e.2.1).canLay0 && ((PyData.str e.2.2).canLay0 && true))) = true
    rw [lay_str w.1, lay_str w.2.1, lay_str w.2.2]
    rfl
  · show PyData.depth (.tuple [.str e.1, .str e.2.1, .str e.2.2]) ≤ 1
    simp only [PyData.depth]
    show max (PyData.str e.1).depth (max (PyData.str e.2.1).depth (max (PyData.str e.2.2).depth 0)) + 1 ≤ 1
    rw [dep_str, dep_str, dep_str]
    decide
theorem eqv_row (a b : Ent) : PyData.eqv (rowD a) (rowD b) = decide (a = b) := by
  obtain ⟨a1, a2, a3⟩ := a
  obtain ⟨b1, b2, b3⟩ := b
  unfold rowD
  simp only [PyData.eqv, PyData.eqvAll]
  have e : ∀ x y : Str, (x == y) = decide (x = y) := fun x y => by
    by_cases h : x = y
    · subst h; simp
    · rw [decide_eq_false h]; exact beq_false_of_ne h
  rw [e, e, e]
  by_cases h1 : a1 = b1 <;> by_cases h2 : a2 = b2 <;> by_cases h3 : a3 = b3 <;> simp [h1, h2, h3]
theorem eqv_rows (xs ys : List Ent) : PyData.eqv (.list (xs.map rowD)) (.list (ys.map rowD)) = decide (xs = ys) := by
  rw [PyData.eqv]
  exact eqv_map eqv_row xs ys
theorem dp_rows {K : PySem.W.Frag} {H : Hp} : ∀ {qs : List Addr} {es : List Ent}, Paired (RowT H) qs es → DpAll K H (qs.map V.ref) (es.map rowD)
  | _, _, .nil => .nil
  | _, _, .cons a r => .cons (.tup (SqT.of a) (.cons (.str _) (.cons (.str _) (.cons (.str _) .nil)))) (dp_rows r)
theorem dp_rowsL {K : PySem.W.Frag} {H : Hp} {l : Addr} {es : List Ent} (h : RowsL H l es) : Dp K H (.ref l) (.list (es.map rowD)) := let ⟨_, a, b⟩ := h; .lst (SqL.of a) (dp_rows b)

/-! ### a right network is made -/
theorem net_fine {K : PySem.W.Frag} {C : Addr} {D : Errs} {H : Hp} {Q : VK} {E : XK} {n dx a : Addr} {es : List Ent} {s t : Str} (hn : H n = some (.ins C dx [])) (hr : Rows K H a es) (nok : NetOk es s t 8) (h10 : es.length ≤ 10)
    (k : ∀ ts ps H', ts.Perm es → PyProof.Rows.sortedS (names ts) = true → Places ts s t ps → (∀ c o, c ≠ n → H c = some o → H' c = some o) → NetAt C H' n s t ts ps → (∀ Hx : Hp, (∀ c o, (∀ xs, o ≠ .lst xs) → H' c = some o → Hx c = some o) → (∀ c o, H c = none → H' c = some o → Hx c = some o) → NetAt C Hx n s t ts ps) → Q .non H') : spNet K C D [.ref n, .ref a, .str s, .str t] H Q E := by
  refine ⟨n, dx, a, es, s, t, rfl, hn, hr, by omega, fun e he => (nok.ok e he).2, nok.hs.2, nok.ht.2, fun x hx => ?_, fun _ ts hp hs => ⟨fun x hx => ?_, fun _ ps hps => ⟨fun h8 => ?_, fun _ H' kp hN hV => k ts ps H' hp hs hps kp hN hV⟩⟩⟩
  · rw [nok.early h10] at hx; cases hx
  · rw [(nok.perm hp).late] at hx; cases hx
  · exact absurd ((nok.perm hp).eight hps) (by omega)
section
variable {K : PySem.W.Frag}
/-- a network made while the script's state stands by -/
theorem net_step {C : Addr} {D : Errs} {G H : Hp} {st : Addr} {m : Nat} {Q : VK} {E : XK} {n dx a : Addr} {es : List Ent} {s t : Str} (d : DSt G H st m) (hr : RowsL G a es) (nok : NetOk es s t 8) (h10 : es.length ≤ 10) (nb : H n = none) (ndx : H dx = none) (ne : dx ≠ n)
    (k : ∀ ts ps G' H', ts.Perm es → PyProof.Rows.sortedS (names ts) = true → Places ts s t ps → Same G G' → DSt G' H' st m → NetAt C G' n s t ts ps → (∀ q xs ys, H q = some (.lst xs) → NetAt C (upd G' q (.lst ys)) n s t ts ps) → Q .non H') : spNet K C D [.ref n, .ref a, .str s, .str t] (upd (upd H dx (.own n)) n (.ins C dx [])) Q E := by
  have sm : Same H (upd (upd H dx (.own n)) n (.ins C dx [])) := (same_upd ndx).trans (same_upd (by rw [upd_ne (Ne.symm ne)]; exact nb))
  refine net_fine upd_same ((hr.on d.same).on sm).rows nok h10 fun ts ps H4 hp hs hps kp _ hV => ?_
  have s34 : Same H H4 := fun c o hc => kp c o (fun z => by rw [z, nb] at hc; cases hc) (sm _ _ hc)
  obtain ⟨G4, sG, d4, al, al2⟩ := d.all s34
  have old : ∀ {c : Addr}, (upd (upd H dx (.own n)) n (.ins C dx [])) c = none → H c = none := fun {c} hc => by
    cases e : H c with
    | none => rfl
    | some o => rw [sm _ _ e] at hc; cases hc
  refine k ts ps G4 H4 hp hs hps sG d4 (hV G4 al2 fun c o hc h => al c o (old hc) h) fun q xs ys hq => hV _ (fun c o ho h => ?_) fun c o hc h => ?_
  · rw [upd_ne (fun z => by rw [z, s34 _ _ hq] at h; exact ho _ (Option.some.inj h).symm)]
    exact al2 _ _ ho h
  · rw [upd_ne (fun z => by rw [z] at hc; rw [old hc] at hq; cases hq)]
    exact al _ _ (old hc) h
end

/-! ### the law: ends of a row -/
def betB (r : List Str) (f g : Str) : Bool := if r = [] then decide (f = g) else decide (firstN r = f) && decide (lastN r = g)
theorem at_first {r : List Str} (h : r ≠ []) : r[0]? = some (firstN r) := by
  cases r with
  | nil => exact absurd rfl h
  | cons a l => rfl
theorem at_last {r : List Str} (h : r ≠ []) : r[r.length - 1]? = some (lastN r) := by
  have : 0 < r.length := List.length_pos_iff.mpr h
  unfold lastN
  rw [List.getD_eq_getElem?_getD, List.getElem?_eq_getElem (show r.length - 1 < r.length by omega)]
  rfl
section
variable {P : Program} {w : World} {K : PySem.W.Frag} {mg : Str → Option Value} {base : Heap}
def spBetw : Sp := fun vs H Q _ => ∃ (l : Addr) (r : List Str) (f g : Str), vs = [.ref l, .str f, .str g] ∧ RowS H l r ∧ (∀ z ∈ r, Wn z) ∧ ∀ H', Same H H' → Q (.bl (betB r f g)) H'
theorem ok_betw (T : Txt K mg) : FnOk P w K mg base CX0 1 T.f_between T.d_between ["_law_row", "_law_first", "_law_last"] spBetw := by
  refine T.F_between.ok sc_between (fun vs H Q E h => ?_) (fun cdv A outer s0 H vs Q E hr h => ?_)
  · obtain ⟨l, r, f, g, rfl, _⟩ := h
    rfl
  · obtain ⟨l, r, f, g, rfl, hl, hw, k⟩ := h
    refine ⟨_, (pss_cons (ps_if (pt_cmpR (op_eqD hr.units) (pv 0) (pe_lst pa_nil) (nomark _))
      (pss_one (ps_ret (pe_cmpR op_eq (pv 1) (pv 2) (nomark _))))
      pss_nil)
    (pss_one (ps_ret (pe_and (pe_cmpR op_eq (pe_ix ix_list (pv 0) pe_int (fun _ _ => rfl)) (pv 1) (nomark _)) (pe_one (pe_cmpR op_eq (pe_ix ix_list (pv 0) (pe_un un_neg pe_int) (fun _ _ => rfl)) (pv 2) (nomark _))))))), ?_⟩
    have hl : H l = some (.lst (r.map V.str)) := hl
    refine ⟨_, rfl, by show 0 ≤ sizeLine; decide, fun E1 nE => ?_⟩
    have s1 := same_upd (o := .lst []) nE
    refine ⟨_, _, dp_txts (s1 _ _ hl), dp_txts (zs := []) upd_same, shaped_txts hw, shaped_nil, _, rfl, ?_⟩
    rw [show PyData.eqv (.list (r.map PyData.str)) (.list (List.map PyData.str [])) = decide (r = []) from eqv_txts r []]
    generalize upd H E1 (.lst []) = H1 at s1 ⊢
    by_cases he : r = []
    · rw [decide_eq_true he]
      refine iteT ?_
      have := k H1 s1
      unfold betB at this
      rw [if_pos he] at this
      refine ⟨_, rfl, _, rfl, rfl, ?_⟩
      rw [show decide (V.str f = V.str g) = decide (f = g) from decide_eq_decide.mpr ⟨fun z => V.str.inj z, fun z => by rw [z]⟩]
      exact this
    · rw [decide_eq_false he]
      refine iteF ?_
      have := k H1 s1
      unfold betB at this
      rw [if_neg he] at this
      have e1 : decide (V.str (firstN r) = V.str f) = decide (firstN r = f) := decide_eq_decide.mpr ⟨fun z => V.str.inj z, fun z => by rw [z]⟩
      have e2 : decide (V.str (lastN r) = V.str g) = decide (lastN r = g) := decide_eq_decide.mpr ⟨fun z => V.str.inj z, fun z => by rw [z]⟩
      have hl1 := s1 _ _ hl
      refine ⟨_, rfl, l, _, 0, .str (firstN r), rfl, rfl, SqL.of hl1, atI_nat (j := 0) (by rw [List.getElem?_map, at_first he]; rfl), _, rfl, rfl, _, rfl, ?_⟩
      rw [e1]
      by_cases h1 : firstN r = f
      · rw [decide_eq_true h1] at this ⊢
        refine iteT ⟨_, rfl, 1, rfl, l, _, _, .str (lastN r), rfl, rfl, SqL.of hl1, atI_last (by rw [List.length_map, List.getElem?_map, at_last he]; rfl), _, rfl, rfl, ?_⟩
        rw [e2]
        exact this
      · rw [decide_eq_false h1] at this ⊢
        exact iteF this
end

/-! ### the law: the places of some links -/
def putP (acc : List Str) (e : Str × Str) : List Str := (if acc = [] then [e.1] else acc) ++ [e.2]
def stopP (ts : List Ent) (acc : List Str) (n : Str) : Bool := match found ts n with
  | none => true
  | some e => decide (acc ≠ []) && decide (lastN acc ≠ e.1)
def plc (ts : List Ent) : List Str → List Str → Option (List Str)
  | acc, [] => some acc
  | acc, n :: r => match found ts n with
    | none => none
    | some e => if acc ≠ [] ∧ lastN acc ≠ e.1 then none else plc ts (putP acc e) r
def placesL (ts : List Ent) (ns : List Str) : Option (List Str) := plc ts [] ns
theorem found_filter (es : List Ent) (z : Str) : found es z = ((es.filter fun e => decide (e.1 = z))[0]?).map fun e => (e.2.1, e.2.2) := by
  unfold found
  induction es with
  | nil => rfl
  | cons e r ih =>
    by_cases h : e.1 = z
    · rw [List.find?_cons_of_pos (by simpa using h), List.filter_cons_of_pos (by simpa using h)]; rfl
    · rw [List.find?_cons_of_neg (by simpa using h), List.filter_cons_of_neg (by simpa using h)]; exact ih
section
variable {P : Program} {w : World} {K : PySem.W.Frag} {mg : Str → Option Value} {base : Heap}
def spPlcs : Sp := fun vs H Q _ => ∃ (l q : Addr) (es : List Ent) (ns : List Str), vs = [.ref l, .ref q] ∧ RowsL H l es ∧ NamesT H q ns ∧ es.length ≤ 20 ∧ ns.length ≤ 100 ∧ (∀ e ∈ es, WnE e) ∧
  (∀ H', Same H H' → placesL es ns = none → Q .non H') ∧ ∀ L H' row, Same H H' → H L = none → RowS H' L row → placesL es ns = some row → Q (.ref L) H'
theorem ok_plcs (T : Txt K mg) : FnOk P w K mg base CX0 1 T.f_places T.d_places ["_law_links", "_law_names"] spPlcs := by
  refine T.F_places.ok sc_places (fun vs H Q E h => ?_) (fun cdv A outer s0 H vs Q E hr h => ?_)
  · obtain ⟨l, q, es, ns, rfl, _⟩ := h
    rfl
  · obtain ⟨l, q, es, ns, rfl, ⟨rq, el, pl⟩, hq, h20, h100, hw, k1, k2⟩ := h
    refine ⟨_, (pss_cons (ps_set (i := 2) sc_places.nd rfl (Or.inl rfl) (pe_lst pa_nil))
    (C8.pss_cut (ps_for PassesOwn.never rfl (pi_tup (pv 1)) (pg_name (i := 3) sc_places.nd rfl (Or.inr rfl))
      (pss_cons (ps_setLc (i := 4) (own := [("_law_link", 5)]) (g := gName 5) rfl sc_places.nd rfl rfl (sw_true rfl rfl rfl (by decide +kernel)) (pi_list (pv 0)) (blkOk_by (N := ["_law_links", "_law_names", "_law_places_here", "_law_name", "_law_found", "_law_link"]) (sc := defScope s_places) (by decide +kernel)) (fun _ _ _ _ _ => pg_name (i := 5) sc_places.nd rfl (Or.inl rfl)) (fun _ _ _ _ _ => pts_one (pt_cmpR op_eq (pe_ix (show IxR _ (rIxT K) from ix_tup) (pv 5) pe_int (fun _ _ => rfl)) (pv 3) (nomark _))) (fun _ _ _ _ _ => (pv 5)))
    (pss_cons (ps_if (PW.pt (pw_or (pt_cmpR (op_eqD hr.units) (pv 4) (pe_lst pa_nil) (nomark _)) (pw_or1 (PW.pt (pw_and (pt_cmpR (op_neD hr.units) (pv 2) (pe_lst pa_nil) (nomark _)) (pw_and1 (pt_cmpR op_ne (pe_ix ix_list (pv 2) (pe_un un_neg pe_int) (fun _ _ => rfl)) (pe_ix ix_tup (pe_ix ix_list (pv 4) pe_int (fun _ _ => rfl)) pe_int (fun _ _ => rfl)) (nomark _))))))))
      (pss_one (ps_ret pe_non))
      pss_nil)
    (C8.pss_cut (ps_if (pt_cmpR (op_eqD hr.units) (pv 2) (pe_lst pa_nil) (nomark _))
      (pss_one (ps_expr (pe_bm PySem.F.plainAttrs_list PySem.F.slot_list_append PySem.F.type_list_append mt_append (pv 2) (pa_cons (pe_ix ix_tup (pe_ix ix_list (pv 4) pe_int (fun _ _ => rfl)) pe_int (fun _ _ => rfl)) pa_nil))))
      pss_nil)
    (pss_one (ps_expr (pe_bm PySem.F.plainAttrs_list PySem.F.slot_list_append PySem.F.type_list_append mt_append (pv 2) (pa_cons (pe_ix ix_tup (pe_ix ix_list (pv 4) pe_int (fun _ _ => rfl)) pe_int (fun _ _ => rfl)) pa_nil))))))))
    (pss_one (ps_ret (pv 2))))), ?_⟩
    have hq : H q = some (.tup (ns.map V.str)) := hq
    refine ⟨by show 0 ≤ sizeLine; decide, fun L nL => ?_⟩
    refine ⟨fun σ H' => ∃ (acc : List Str) (x3 x4 x5 : Option V), σ = [some (.ref l), some (.ref q), some (.ref L), x3, x4, x5] ∧ Same H H' ∧ H' L = some (.lst (acc.map V.str)) ∧ placesL es ns = some acc, ?_, ?_⟩
    · refine ⟨_, rfl, q, rfl, ⟨_, SqT.of (same_upd nL _ _ hq)⟩, ?_⟩
      refine for_it (walk_tup (K := K) (a := q) (xs := ns.map V.str)) (fun j σ H' => ∃ (acc : List Str) (x3 x4 x5 : Option V), σ = [some (.ref l), some (.ref q), some (.ref L), x3, x4, x5] ∧ Same H H' ∧ H' L = some (.lst (acc.map V.str)) ∧ placesL es ns = plc es acc (ns.drop j) ∧ acc.length ≤ j + 1 ∧ ∀ z ∈ acc, Wn z) ⟨[], _, _, _, rfl, same_upd nL, upd_same, rfl, by simp, fun z hz => by cases hz⟩ (fun j σ H' _ ⟨_, _, _, _, _, s, _⟩ => SqT.of (s _ _ hq)) ?_ ?_
      · rintro j x σ H0 H1 hj ⟨acc, x3, x4, x5, rfl, s1, eL, hp, hal, haw⟩ ⟨rfl, hx⟩
        rw [List.getElem?_map] at hx
        cases hz : ns[j]? with
        | none => rw [hz] at hx; cases hx
        | some z =>
          rw [hz] at hx
          obtain rfl := Option.some.inj hx
          have hjl := (List.getElem?_eq_some_iff.mp hz).1
          have hd : ns.drop j = z :: ns.drop (j + 1) := by rw [List.drop_eq_getElem_cons hjl]; congr 1; exact (List.getElem?_eq_some_iff.mp hz).2
          rw [hd] at hp
          have el1 := s1 _ _ el
          refine ⟨_, rfl, l, rfl, ⟨_, SqL.of el1⟩, fun D nD => ?_⟩
          have lD : l ≠ D := ne_of_none el1 nD
          have pl1 : Paired (RowT H1) rq es := pl.mono fun a b h => s1 _ _ h
          refine lc_list (K := K) (a := l) (xs := rq.map V.ref) (fun m H' => ∃ us : List Addr, H' = upd H1 D (.lst (us.map V.ref)) ∧ Paired (RowT H1) us ((es.take m).filter fun e => decide (e.1 = z))) ⟨[], rfl, .nil⟩ (fun m H' _ e => by obtain ⟨us, rfl, _⟩ := e; exact SqL.of (by rw [upd_ne lD]; exact el1)) ?_ ?_
          · rintro m y H2 hm ⟨us, rfl, pu⟩
            rw [List.getElem?_map] at hm
            cases hq2 : rq[m]? with
            | none => rw [hq2] at hm; cases hm
            | some a =>
              rw [hq2] at hm
              obtain rfl := Option.some.inj hm
              obtain ⟨e, he, ea⟩ := pair_at pl1 hq2
              have ea' : H1 a = some (.tup [.str e.1, .str e.2.1, .str e.2.2]) := ea
              have hul : us.length ≤ 20 := by
                rw [pu.length]
                exact Nat.le_trans (List.length_filter_le _ _) (by rw [List.length_take]; omega)
              refine ⟨rfl, _, rfl, _, _, 0, .str e.1, rfl, rfl, SqT.of (by rw [upd_ne (ne_of_none ea' nD)]; exact ea'), atI_nat (j := 0) rfl, _, rfl, rfl, _, rfl, ?_⟩
              rw [show decide (V.str e.1 = V.str z) = decide (e.1 = z) from decide_eq_decide.mpr ⟨fun z => V.str.inj z, fun z => by rw [z]⟩, take_more he, List.filter_append]
              by_cases hd : e.1 = z
              · rw [decide_eq_true hd, List.filter_cons_of_pos (by simpa using hd)]
                refine iteT ⟨_, rfl, _, upd_same, small1000 (by rw [List.length_map]; omega), us ++ [a], ?_, paired_snoc ea pu⟩
                rw [List.map_append]
                funext c
                by_cases ec : c = D
                · rw [ec, upd_same, upd_same]; rfl
                · rw [upd_ne ec, upd_ne ec, upd_ne ec]
              · rw [decide_eq_false hd, List.filter_cons_of_neg (by simpa using hd), List.filter_nil, List.append_nil]
                exact iteF ⟨us, rfl, pu⟩
          rintro H2 ⟨us, rfl, pu⟩
          rw [List.length_map, pl.length, List.take_length] at pu
          have s2 := s1.trans (same_upd (o := .lst (us.map V.ref)) nD)
          have eD : (upd H1 D (.lst (us.map V.ref))) D = some (.lst (us.map V.ref)) := upd_same
          have eL2 := same_upd (o := .lst (us.map V.ref)) nD _ _ eL
          have pu2 : Paired (RowT (upd H1 D (.lst (us.map V.ref)))) us (es.filter fun e => decide (e.1 = z)) := pu.mono fun a b h => same_upd (o := .lst (us.map V.ref)) nD _ _ h
          have hff := found_filter es z
          have hfw : ∀ e ∈ es.filter (fun e => decide (e.1 = z)), WnE e := fun e he => hw e (List.mem_filter.mp he).1
          generalize es.filter (fun e => decide (e.1 = z)) = fs at pu2 hff hfw
          clear pu pl1 el1 lD
          generalize upd H1 D (.lst (us.map V.ref)) = H2 at s2 eD eL2 pu2 ⊢
          refine ⟨_, rfl, by show 0 ≤ sizeLine; decide, fun E1 nE => ?_⟩
          have s3 := same_upd (o := .lst []) nE
          refine ⟨_, _, .lst (SqL.of (s3 _ _ eD)) (dp_rows (pu2.mono fun a b h => s3 _ _ h)), dp_txts (zs := []) upd_same, shaped_rows hfw, shaped_nil, _, rfl, ?_⟩
          rw [show PyData.eqv (.list (fs.map rowD)) (.list (List.map PyData.str [])) = decide (fs = []) from eqv_rows fs []]
          have eD3 := s3 _ _ eD
          have eL3 := s3 _ _ eL2
          have s3 := s2.trans s3
          have pu3 : Paired (RowT (upd H2 E1 (.lst []))) us fs := pu2.mono fun a b h => same_upd (o := .lst []) nE _ _ h
          generalize upd H2 E1 (.lst []) = H3 at s3 eD3 eL3 pu3 ⊢
          clear pu2 eL2 eD s2 nE nD
          cases pu3 with
          | nil =>
            rw [decide_eq_true rfl]
            refine iteT (k1 H3 s3 ?_)
            rw [hp]
            unfold plc
            rw [hff]
            rfl
          | @cons a e us fs ea pu3 =>
          rw [decide_eq_false (List.cons_ne_nil e fs)]
          have ea : H3 a = some (.tup [.str e.1, .str e.2.1, .str e.2.2]) := ea
          have hff : found es z = some e.2 := hff
          have we := hfw e List.mem_cons_self
          refine iteF ?_
          have zw : ∀ y ∈ putP acc e.2, Wn y := fun y hy => by
            unfold putP at hy
            rcases List.mem_append.mp hy with h | h
            · split at h
              · rw [List.mem_singleton.mp h]; exact we.2.1
              · exact haw y h
            · rw [List.mem_singleton.mp h]; exact we.2.2
          refine ⟨_, rfl, by show 0 ≤ sizeLine; decide, fun E1 nE => ?_⟩
          have s4 := same_upd (o := .lst []) nE
          refine ⟨_, _, dp_txts (s4 _ _ eL3), dp_txts (zs := []) upd_same, shaped_txts haw, shaped_nil, _, rfl, ?_⟩
          rw [show PyData.eqv (.list (acc.map PyData.str)) (.list (List.map PyData.str [])) = decide (acc = []) from eqv_txts acc []]
          have eD4 := s4 _ _ eD3
          have eL4 := s4 _ _ eL3
          have ea4 := s4 _ _ ea
          have s4 := s3.trans s4
          generalize upd H3 E1 (.lst []) = H4 at s4 eD4 eL4 ea4 ⊢
          clear ea eD3 eL3 s3 nE pu3 hfw
          have fin : ∀ H5, Same H H5 → H5 L = some (.lst ((putP acc e.2).map V.str)) → (acc ≠ [] → lastN acc = e.2.1) → ∃ (acc2 : List Str) (y3 y4 y5 : Option V), [some (.ref l), some (.ref q), some (.ref L), some (.str z), some (.ref D), x5] = [some (.ref l), some (.ref q), some (.ref L), y3, y4, y5] ∧ Same H H5 ∧ H5 L = some (.lst (acc2.map V.str)) ∧ placesL es ns = plc es acc2 (ns.drop (j + 1)) ∧ acc2.length ≤ j + 1 + 1 ∧ ∀ z ∈ acc2, Wn z := fun H5 s5 e5 hl => by
            refine ⟨putP acc e.2, _, _, _, rfl, s5, e5, ?_, ?_, zw⟩
            · rw [hp]
              conv => lhs; unfold plc
              rw [hff]
              show (if acc ≠ [] ∧ lastN acc ≠ e.2.1 then _ else _) = _
              rw [if_neg (fun h => h.2 (hl h.1))]
            · unfold putP
              split
              · simp only [List.length_append, List.length_cons, List.length_nil]; omega
              · rw [List.length_append, List.length_singleton]; omega
          by_cases he : acc = []
          · subst he
            rw [decide_eq_true rfl]
            refine iteF ?_
            refine iteF ?_
            refine ⟨fun σ H' => σ = [some (.ref l), some (.ref q), some (.ref L), some (.str z), some (.ref D), x5] ∧ Same H H' ∧ H' L = some (.lst [V.str e.2.1]) ∧ H' D = some (.lst ((a :: us).map V.ref)) ∧ H' a = some (.tup [.str e.1, .str e.2.1, .str e.2.2]), ?_, ?_⟩
            · refine ⟨_, rfl, by show 0 ≤ sizeLine; decide, fun E2 nE2 => ?_⟩
              have s5 := same_upd (o := .lst []) nE2
              refine ⟨_, _, dp_txts (zs := []) (s5 _ _ eL4), dp_txts (zs := []) upd_same, shaped_nil, shaped_nil, _, rfl, ?_⟩
              rw [show PyData.eqv (.list (List.map PyData.str [])) (.list (List.map PyData.str [])) = decide (([] : List Str) = []) from eqv_txts [] []]
              rw [decide_eq_true rfl]
              refine iteT ?_
              have eD5 := s5 _ _ eD4
              have eL5 := s5 _ _ eL4
              have ea5 := s5 _ _ ea4
              have s5 := s4.trans s5
              generalize upd H4 E2 (.lst []) = H5 at s5 eD5 eL5 ea5 ⊢
              refine ⟨_, rfl, .inl ⟨rfl, _, SqL.of eL5⟩, _, rfl, D, _, 0, .ref a, rfl, rfl, SqL.of eD5, atI_nat (j := 0) rfl, a, _, 1, .str e.2.1, rfl, rfl, SqT.of ea5, atI_nat (j := 1) rfl, L, _, _, rfl, rfl, eL5, by show 0 < sizeLine; decide, ?_⟩
              exact ⟨rfl, same_keep nL s5, upd_same, by rw [upd_ne (fun h => by rw [h, eL5] at eD5; cases eD5)]; exact eD5, by rw [upd_ne (fun h => by rw [h, eL5] at ea5; cases ea5)]; exact ea5⟩
            · rintro σ H5 ⟨rfl, s5, eL5, eD5, ea5⟩
              refine ⟨_, rfl, .inl ⟨rfl, _, SqL.of eL5⟩, _, rfl, D, _, 0, .ref a, rfl, rfl, SqL.of eD5, atI_nat (j := 0) rfl, a, _, 2, .str e.2.2, rfl, rfl, SqT.of ea5, atI_nat (j := 2) rfl, L, _, _, rfl, rfl, eL5, by show 1 < sizeLine; decide, ?_⟩
              exact fin _ (same_keep nL s5) (by rw [upd_same]; rfl) (fun h => absurd rfl h)
          · rw [decide_eq_false he]
            refine iteT ?_
            have elst : decide (V.str (lastN acc) = V.str e.2.1) = decide (lastN acc = e.2.1) := decide_eq_decide.mpr ⟨fun z => V.str.inj z, fun z => by rw [z]⟩
            refine ⟨_, rfl, 1, rfl, L, _, _, .str (lastN acc), rfl, rfl, SqL.of eL4, atI_last (by rw [List.length_map, List.getElem?_map, at_last he]; rfl), _, rfl, D, _, 0, .ref a, rfl, rfl, SqL.of eD4, atI_nat (j := 0) rfl, a, _, 1, .str e.2.1, rfl, rfl, SqT.of ea4, atI_nat (j := 1) rfl, rfl, _, rfl, ?_⟩
            rw [elst]
            by_cases hl : lastN acc = e.2.1
            · rw [decide_eq_true hl]
              refine iteF ?_
              refine ⟨fun σ H' => σ = [some (.ref l), some (.ref q), some (.ref L), some (.str z), some (.ref D), x5] ∧ Same H H' ∧ H' L = some (.lst (acc.map V.str)) ∧ H' D = some (.lst ((a :: us).map V.ref)) ∧ H' a = some (.tup [.str e.1, .str e.2.1, .str e.2.2]), ?_, ?_⟩
              · refine ⟨_, rfl, by show 0 ≤ sizeLine; decide, fun E2 nE2 => ?_⟩
                have s5 := same_upd (o := .lst []) nE2
                refine ⟨_, _, dp_txts (s5 _ _ eL4), dp_txts (zs := []) upd_same, shaped_txts haw, shaped_nil, _, rfl, ?_⟩
                rw [show PyData.eqv (.list (acc.map PyData.str)) (.list (List.map PyData.str [])) = decide (acc = []) from eqv_txts acc []]
                rw [decide_eq_false he]
                exact iteF ⟨rfl, s4.trans s5, s5 _ _ eL4, s5 _ _ eD4, s5 _ _ ea4⟩
              · rintro σ H5 ⟨rfl, s5, eL5, eD5, ea5⟩
                refine ⟨_, rfl, .inl ⟨rfl, _, SqL.of eL5⟩, _, rfl, D, _, 0, .ref a, rfl, rfl, SqL.of eD5, atI_nat (j := 0) rfl, a, _, 2, .str e.2.2, rfl, rfl, SqT.of ea5, atI_nat (j := 2) rfl, L, _, _, rfl, rfl, eL5, small1000 (by rw [List.length_map]; omega), ?_⟩
                exact fin _ (same_keep nL s5) (by rw [upd_same]; unfold putP; rw [if_neg he, List.map_append]; rfl) (fun _ => hl)
            · rw [decide_eq_false hl]
              refine iteT (k1 H4 s4 ?_)
              rw [hp]
              unfold plc
              rw [hff]
              show (if acc ≠ [] ∧ lastN acc ≠ e.2.1 then _ else _) = _
              rw [if_pos ⟨he, hl⟩]
      · rintro σ H1 ⟨acc, x3, x4, x5, rfl, s1, eL, hp, _⟩
        rw [List.length_map, List.drop_length] at hp
        exact ⟨acc, x3, x4, x5, rfl, s1, eL, hp⟩
    · rintro σ H1 ⟨acc, x3, x4, x5, rfl, s1, eL, hp⟩
      exact ⟨_, rfl, k2 L H1 acc s1 nL eL hp⟩
end

/-! ### the law: is it a bridged pair -/
theorem put_len (acc : List Str) (e : Str × Str) : (putP acc e).length + (if putP acc e = [] then 1 else 0) ≤ acc.length + 1 + (if acc = [] then 1 else 0) := by
  have : putP acc e ≠ [] := by unfold putP; simp
  rw [if_neg this]
  unfold putP
  split
  · next h => rw [h]; simp
  · rw [List.length_append, List.length_singleton]; omega
theorem plc_len {es : List Ent} : ∀ {ns acc r : List Str}, plc es acc ns = some r → r.length ≤ acc.length + ns.length + (if acc = [] then 1 else 0)
  | [], acc, r, h => by
    obtain rfl := Option.some.inj h
    omega
  | n :: ns, acc, r, h => by
    unfold plc at h
    split at h
    · cases h
    · next e _ =>
      split at h
      · cases h
      · have := plc_len h
        have h2 := put_len acc e
        rw [List.length_cons]
        omega
theorem plc_wn {es : List Ent} (hw : ∀ e ∈ es, WnE e) : ∀ {ns acc r : List Str}, (∀ z ∈ acc, Wn z) → plc es acc ns = some r → ∀ z ∈ r, Wn z
  | [], acc, r, ha, h => by
    obtain rfl := Option.some.inj h
    exact ha
  | n :: ns, acc, r, ha, h => by
    unfold plc at h
    split at h
    · cases h
    · next e he =>
      split at h
      · cases h
      · refine plc_wn hw (fun z hz => ?_) h
        have we := wn_found hw he
        unfold putP at hz
        rcases List.mem_append.mp hz with g | g
        · split at g
          · rw [List.mem_singleton.mp g]; exact we.1
          · exact ha z g
        · rw [List.mem_singleton.mp g]; exact we.2
def rowOk (k : Nat) : Option (List Str) → Bool
  | none => false
  | some r => decide (r ≠ []) || decide (k = 0) || decide (k = 6)
theorem rowOk_some (k : Nat) (r : List Str) : rowOk k (some r) = (decide (r ≠ []) || decide (k = 0) || decide (k = 6)) := rfl
def okRows (ps : List (Option (List Str))) : Bool := (List.range 7).all fun k => rowOk k (ps.getD k none)
def rowK (ps : List (Option (List Str))) (k : Nat) : List Str := (ps.getD k none).getD []
def endsL (ps : List (Option (List Str))) (s t : Str) : List (Str × Str) :=
  let c := firstN (rowK ps 1); let x := lastN (rowK ps 1); let v := lastN (rowK ps 3); let m := lastN (rowK ps 2)
  [(s, c), (c, x), (x, m), (c, v), (v, m), (x, v), (m, t)]
def innerL (ps : List (Option (List Str))) : List Str := [firstN (rowK ps 1), lastN (rowK ps 1), lastN (rowK ps 3), lastN (rowK ps 2)] ++ (ps.map fun o => innerOf (o.getD [])).flatten
def onceB (l : List Str) : Bool := (List.range l.length).all fun k => !decide (l.getD k "" ∈ l.take k)
def dueB (es : List Ent) (s t : Str) (rows : List (List Str)) : Bool :=
  let ps := rows.map (placesL es)
  okRows ps && (List.range 7).all (fun k => betB (rowK ps k) ((endsL ps s t).getD k ("", "")).1 ((endsL ps s t).getD k ("", "")).2) && onceB (innerL ps)
def PlcV (H : Hp) (v : V) (o : Option (List Str)) : Prop := match o with
  | none => v = .non
  | some r => ∃ L, v = .ref L ∧ RowS H L r
theorem PlcV.on {H H' : Hp} (s : Same H H') {v : V} {o : Option (List Str)} (h : PlcV H v o) : PlcV H' v o := by
  cases o with
  | none => exact h
  | some r => obtain ⟨L, e, g⟩ := h; exact ⟨L, e, s _ _ g⟩
section
variable {P : Program} {w : World} {K : PySem.W.Frag} {mg : Str → Option Value} {base : Heap}
def spDueP : Sp := fun vs H Q _ => ∃ (l p : Addr) (s t : Str) (es : List Ent) (rows : List (List Str)), vs = [.ref l, .str s, .str t, .ref p] ∧ RowsL H l es ∧ SevenS H p rows ∧ rows.length = 7 ∧ es.length ≤ 20 ∧ (∀ r ∈ rows, r.length ≤ 100) ∧ (∀ e ∈ es, WnE e) ∧
  ∀ H', Same H H' → Q (.bl (dueB es s t rows)) H'
set_option maxHeartbeats 1000000 in
theorem ok_duep (T : Txt K mg) : FnOk P w K mg base CX0 2 T.f_pair T.d_pair ["_law_links", "_law_start_here", "_law_end", "_law_seven"] spDueP := by
  have G_places := ok_plcs (P := P) (w := w) (base := base) T
  have G_between := ok_betw (P := P) (w := w) (base := base) T
  refine T.F_pair.ok sc_pair (fun vs H Q E h => ?_) (fun cdv A outer s0 H vs Q E hr h => ?_)
  · obtain ⟨l, p, s, t, es, rows, rfl, _⟩ := h
    rfl
  · obtain ⟨l, p, s, t, es, rows, rfl, hl, ⟨qs, ep, pl⟩, h7, h20, h100, hw, k⟩ := h
    refine ⟨_, (pss_cons (ps_setLc (i := 4) (own := [("_law_names", 13)]) (g := gName 13) (tt := tYes) rfl sc_pair.nd rfl rfl (sw_true rfl rfl rfl (by decide +kernel)) (pi_tup (pv 3)) (blkOk_by (N := ["_law_links", "_law_start_here", "_law_end", "_law_seven", "_law_rows", "_law_k", "_law_c", "_law_x", "_law_v", "_law_m", "_law_ends", "_law_inner", "_law_row", "_law_names"]) (sc := defScope s_pair) (by decide +kernel)) (fun _ _ _ _ _ => pg_name (i := 13) sc_pair.nd rfl (Or.inl rfl)) (fun _ _ _ _ _ => pts_nil) (fun _ _ _ _ _ => (pe_call G_places (hr.mono (by decide)) rfl T.m_places T.F_places.kp T.b_places .nil pass0 (pa_cons (pv 0) (pa_cons (pv 13) pa_nil)))))
    (C8.pss_cut (ps_for PassesOwn.never rfl (pi_range1 rfl T.n_range (pa_cons pe_int pa_nil)) (pg_name (i := 5) sc_pair.nd rfl (Or.inl rfl))
      (pss_one (ps_if (PW.pt (pw_or (pt_cmpR op_isN (pe_ix ix_list (pv 4) (pv 5) (fun _ _ => rfl)) pe_non (nomark _)) (pw_or1 (PW.pt (pw_and (pt_cmpR (op_eqD hr.units) (pe_ix ix_list (pv 4) (pv 5) (fun _ _ => rfl)) (pe_lst pa_nil) (nomark _)) (pw_and (pt_cmpR op_ne (pv 5) pe_int (nomark _)) (pw_and1 (pt_cmpR op_ne (pv 5) pe_int (nomark _)))))))))
      (pss_one (ps_ret pe_bl))
      pss_nil)))
    (pss_cons (ps_asg (pe_tup (pa_cons (pe_ix ix_list (pe_ix ix_list (pv 4) pe_int (fun _ _ => rfl)) pe_int (fun _ _ => rfl)) (pa_cons (pe_ix ix_list (pe_ix ix_list (pv 4) pe_int (fun _ _ => rfl)) (pe_un un_neg pe_int) (fun _ _ => rfl)) (pa_cons (pe_ix ix_list (pe_ix ix_list (pv 4) pe_int (fun _ _ => rfl)) (pe_un un_neg pe_int) (fun _ _ => rfl)) (pa_cons (pe_ix ix_list (pe_ix ix_list (pv 4) pe_int (fun _ _ => rfl)) (pe_un un_neg pe_int) (fun _ _ => rfl)) pa_nil))))) (pg_tup rfl (pgs_cons (pg_name (i := 6) sc_pair.nd rfl (Or.inl rfl)) (pgs_cons (pg_name (i := 7) sc_pair.nd rfl (Or.inl rfl)) (pgs_cons (pg_name (i := 8) sc_pair.nd rfl (Or.inl rfl)) (pgs_cons (pg_name (i := 9) sc_pair.nd rfl (Or.inl rfl)) pgs_nil))))))
    (pss_cons (ps_set (i := 10) sc_pair.nd rfl (Or.inl rfl) (pe_lst (pa_cons (pe_tup (pa_cons (pv 1) (pa_cons (pv 6) pa_nil))) (pa_cons (pe_tup (pa_cons (pv 6) (pa_cons (pv 7) pa_nil))) (pa_cons (pe_tup (pa_cons (pv 7) (pa_cons (pv 9) pa_nil))) (pa_cons (pe_tup (pa_cons (pv 6) (pa_cons (pv 8) pa_nil))) (pa_cons (pe_tup (pa_cons (pv 8) (pa_cons (pv 9) pa_nil))) (pa_cons (pe_tup (pa_cons (pv 7) (pa_cons (pv 8) pa_nil))) (pa_cons (pe_tup (pa_cons (pv 9) (pa_cons (pv 2) pa_nil))) pa_nil)))))))))
    (C8.pss_cut (ps_for PassesOwn.never rfl (pi_range1 rfl T.n_range (pa_cons pe_int pa_nil)) (pg_name (i := 5) sc_pair.nd rfl (Or.inl rfl))
      (pss_one (ps_if (pt_not (pt_val (pe_call G_between (hr.mono (by decide)) rfl T.m_between T.F_between.kp T.b_between .nil pass0 (pa_cons (pe_ix ix_list (pv 4) (pv 5) (fun _ _ => rfl)) (pa_cons (pe_ix ix_tup (pe_ix ix_list (pv 10) (pv 5) (fun _ _ => rfl)) pe_int (fun _ _ => rfl)) (pa_cons (pe_ix ix_tup (pe_ix ix_list (pv 10) (pv 5) (fun _ _ => rfl)) pe_int (fun _ _ => rfl)) pa_nil))))))
      (pss_one (ps_ret pe_bl))
      pss_nil)))
    (pss_cons (ps_set (i := 11) sc_pair.nd rfl (Or.inr rfl) (pe_lst (pa_cons (pv 6) (pa_cons (pv 7) (pa_cons (pv 8) (pa_cons (pv 9) pa_nil))))))
    (C8.pss_cut (ps_for PassesOwn.never rfl (pi_list (pv 4)) (pg_name (i := 12) sc_pair.nd rfl (Or.inl rfl))
      (pss_one (ps_set (i := 11) sc_pair.nd rfl (Or.inr rfl) (pe_op op_cat (pv 11) (pe_slice sl_list (pv 12) (po_some pe_int) (po_some (pe_un un_neg pe_int)))))))
    (pss_one (ps_ret (pe_callB (cr_all rfl) (by rfl) T.n_all (by decide +kernel) (pa_cons (pe_lc (own := [("_law_k", 5)]) (g := gName 5) (tt := tYes) rfl sc_pair.nd (pi_range1 rfl T.n_range (pa_cons (pe_callB call_len_seq (by rfl) T.n_len (by decide +kernel) (pa_cons (pv 11) pa_nil)) pa_nil)) (blkOk_by (N := ["_law_links", "_law_start_here", "_law_end", "_law_seven", "_law_rows", "_law_k", "_law_c", "_law_x", "_law_v", "_law_m", "_law_ends", "_law_inner", "_law_row", "_law_names"]) (sc := defScope s_pair) (by decide +kernel)) (fun _ _ _ _ _ => pg_name (i := 5) sc_pair.nd rfl (Or.inl rfl)) (fun _ _ _ _ _ => pts_nil) (fun _ _ _ _ _ => (pe_cmpR (show OpR _ _ (rIn K true) from op_notIn_seq) (pe_ix (show IxR _ (rIxL K) from ix_list) (pv 11) (pv 5) (fun _ _ => rfl)) (pe_slice (show SlR _ (rSlL K) from sl_list) (pv 11) po_none (po_some (pv 5))) (by with_unfolding_all rfl)))) pa_nil))))))))))), ?_⟩
    refine ⟨_, rfl, p, rfl, ⟨_, SqT.of ep⟩, fun D nD => ?_⟩
    refine lc_tup (K := K) (a := p) (xs := qs.map V.ref) (fun j H' => Same H H' ∧ ∃ rv : List V, H' D = some (.lst rv) ∧ Paired (fun v o => PlcV H' v o ∧ v ≠ .ref D) rv ((rows.take j).map (placesL es))) ⟨same_upd nD, [], upd_same, .nil⟩ (fun j H' _ h => SqT.of (h.1 _ _ ep)) ?_ ?_
    · rintro j x H1 hj ⟨s1, rv, eD, pv⟩
      rw [List.getElem?_map] at hj
      cases hq : qs[j]? with
      | none => rw [hq] at hj; cases hj
      | some q =>
        rw [hq] at hj
        obtain rfl := Option.some.inj hj
        obtain ⟨r, hr', er⟩ := pair_at pl hq
        have er1 := s1 _ _ (show H q = some (.tup (r.map V.str)) from er)
        have hjl := (List.getElem?_eq_some_iff.mp hr').1
        have hrv := pv.length
        rw [List.length_map, List.length_take] at hrv
        have put : ∀ (v : V) (H2 : Hp), Same H1 H2 → PlcV H2 v (placesL es r) → v ≠ .ref D → ∃ acc, H2 D = some (.lst acc) ∧ acc.length < sizeLine ∧ (Same H (upd H2 D (.lst (acc ++ [v]))) ∧ ∃ rv' : List V, (upd H2 D (.lst (acc ++ [v]))) D = some (.lst rv') ∧ Paired (fun u o => PlcV (upd H2 D (.lst (acc ++ [v]))) u o ∧ u ≠ .ref D) rv' ((rows.take (j + 1)).map (placesL es))) := fun v H2 s2 hv hvD => by
          have keep : ∀ (o2 : HO) u o, PlcV H2 u o ∧ u ≠ .ref D → PlcV (upd H2 D o2) u o ∧ u ≠ .ref D := fun o2 u o h => by
            refine ⟨?_, h.2⟩
            cases o with
            | none => exact h.1
            | some r =>
              obtain ⟨L, e, g⟩ := h.1
              refine ⟨L, e, ?_⟩
              unfold RowS at g ⊢
              rw [upd_ne (fun z => h.2 (by rw [e, z]))]
              exact g
          refine ⟨rv, s2 _ _ eD, small1000 (by omega), same_keep nD (s1.trans s2), rv ++ [v], upd_same, ?_⟩
          rw [take_more hr', List.map_append]
          exact paired_app (pv.mono fun u o h => keep _ u o ⟨h.1.on s2, h.2⟩) (.cons (keep _ v _ ⟨hv, hvD⟩) .nil)
        refine ⟨rfl, _, rfl, _, rfl, l, q, es, r, rfl, hl.on s1, er1, h20, h100 r (List.mem_of_getElem? hr'), hw, fun H2 s2 hn => ?_, fun L H2 row s2 nL eL hs => ?_⟩
        · exact put .non H2 s2 (by rw [hn]; rfl) (by intro z; cases z)
        · exact put (.ref L) H2 s2 (by rw [hs]; exact ⟨L, rfl, eL⟩) (fun z => ne_of_none eD nL (V.ref.inj z).symm)
    rintro H1 ⟨s1, rv, eD, pv⟩
    have hql := pl.length
    rw [List.length_map, hql, List.take_length] at pv
    have pv : Paired (PlcV H1) rv (rows.map (placesL es)) := pv.mono fun u o h => h.1
    have hpl : (rows.map (placesL es)).length = 7 := by rw [List.length_map, h7]
    have hrw : ∀ r, some r ∈ rows.map (placesL es) → (∀ z ∈ r, Wn z) ∧ r.length ≤ 102 := fun r hr => by
      obtain ⟨ns, hn, he⟩ := List.mem_map.mp hr
      have h1 := plc_wn hw (fun z hz => by cases hz) he
      have h2 := plc_len he
      have h3 := h100 ns hn
      have h4 : ([] : List Str).length + ns.length + (if ([] : List Str) = [] then 1 else 0) = ns.length + 1 := by rw [if_pos rfl]; simp
      exact ⟨h1, by omega⟩
    have hdue : dueB es s t rows = (let ps := rows.map (placesL es)
      okRows ps && (List.range 7).all (fun k => betB (rowK ps k) ((endsL ps s t).getD k ("", "")).1 ((endsL ps s t).getD k ("", "")).2) && onceB (innerL ps)) := rfl
    generalize rows.map (placesL es) = ps at pv hpl hrw hdue
    have nD1 : True := trivial
    clear nD
    refine ⟨fun σ H' => ∃ (x5 : Option V), σ = [some (.ref l), some (.str s), some (.str t), some (.ref p), some (.ref D), x5, none, none, none, none, none, none, none, none] ∧ Same H1 H' ∧ okRows ps = true, ?_, ?_⟩
    · refine ⟨7, rfl, by decide, by decide, ?_⟩
      refine for_range (lo := 0) (n := 7) (fun i σ H' => ∃ (x5 : Option V), σ = [some (.ref l), some (.str s), some (.str t), some (.ref p), some (.ref D), x5, none, none, none, none, none, none, none, none] ∧ Same H1 H' ∧ ∀ k < i, rowOk k (ps.getD k none) = true) ⟨_, rfl, Same.refl _, fun k hk => absurd hk (Nat.not_lt_zero k)⟩ ?_ ?_
      · rintro i σ H2 hi ⟨x5, rfl, s2, hall⟩
        have hps : ∃ o, ps[i]? = some o := ⟨_, List.getElem?_eq_getElem (by omega)⟩
        obtain ⟨o, ho⟩ := hps
        have hrv := pv.length
        obtain ⟨v, hv⟩ : ∃ v, rv[i]? = some v := ⟨_, List.getElem?_eq_getElem (by omega)⟩
        obtain ⟨o', ho', pvo⟩ := pair_at pv hv
        obtain rfl := Option.some.inj (ho'.symm.trans ho)
        have hg : ps.getD i none = o' := by rw [List.getD_eq_getElem?_getD, ho]; rfl
        have bad : rowOk i o' = false → dueB es s t rows = false := fun hb => by
          rw [hdue]
          have : okRows ps = false := by
            unfold okRows
            rw [List.all_eq_false]
            refine ⟨i, List.mem_range.mpr hi, ?_⟩
            rw [hg, hb]
            decide
          show (okRows ps && _ && _) = false
          rw [this, Bool.false_and, Bool.false_and]
        have nxt : rowOk i o' = true → ∀ k < i + 1, rowOk k (ps.getD k none) = true := fun hb k hk => by
          rcases Nat.lt_or_ge k i with h | h
          · exact hall k h
          · obtain rfl : k = i := by omega
            rw [hg]
            exact hb
        have eD2 := s2 _ _ eD
        simp only [Int.zero_add]
        refine ⟨_, rfl, _, rfl, D, _, (i : Int), v, rfl, rfl, SqL.of eD2, atI_nat hv, rfl, _, rfl, ?_⟩
        cases o' with
        | none =>
          obtain rfl : v = .non := pvo
          rw [decide_eq_true rfl]
          refine iteT (iteT ?_)
          have := k H2 (s1.trans s2)
          rw [bad rfl] at this
          exact this
        | some r =>
          obtain ⟨L, rfl, eL⟩ := pvo
          have eL2 : H2 L = some (.lst (r.map V.str)) := s2 _ _ eL
          rw [decide_eq_false (by intro z; cases z)]
          refine iteF ?_
          refine ⟨_, rfl, _, rfl, D, _, (i : Int), _, rfl, rfl, SqL.of eD2, atI_nat hv, by show 0 ≤ sizeLine; decide, fun E2 nE2 => ?_⟩
          have s3 := s2.trans (same_upd (o := .lst []) nE2)
          refine ⟨_, _, dp_txts (same_upd nE2 _ _ eL2), dp_txts (zs := []) upd_same, shaped_txts (hrw r (List.mem_of_getElem? ho)).1, shaped_nil, _, rfl, ?_⟩
          rw [show PyData.eqv (.list (r.map PyData.str)) (.list (List.map PyData.str [])) = decide (r = []) from eqv_txts r []]
          generalize upd H2 E2 (.lst []) = H3 at s3 ⊢
          by_cases he : r = []
          · rw [decide_eq_true he]
            refine iteT ?_
            have z0 : decide (V.int (i : Int) = V.int 0) = decide (i = 0) := decide_eq_decide.mpr ⟨fun h => by have := V.int.inj h; omega, fun h => by rw [h]; rfl⟩
            have z6 : decide (V.int (i : Int) = V.int 6) = decide (i = 6) := decide_eq_decide.mpr ⟨fun h => by have := V.int.inj h; omega, fun h => by rw [h]; rfl⟩
            refine ⟨_, rfl, rfl, _, rfl, ?_⟩
            rw [z0]
            by_cases h0 : i = 0
            · rw [decide_eq_true h0]
              exact iteF (iteF ⟨_, rfl, s3, nxt (by rw [rowOk_some, decide_eq_true h0, Bool.or_true, Bool.true_or])⟩)
            · rw [decide_eq_false h0]
              refine iteT ⟨_, rfl, rfl, _, rfl, ?_⟩
              rw [z6]
              by_cases h6 : i = 6
              · rw [decide_eq_true h6]
                exact iteF ⟨_, rfl, s3, nxt (by rw [rowOk_some, decide_eq_true h6, Bool.or_true])⟩
              · rw [decide_eq_false h6]
                refine iteT ?_
                have := k H3 (s1.trans s3)
                rw [bad (by rw [rowOk_some, decide_eq_false h0, decide_eq_false h6, decide_eq_false (fun h => h he)]; rfl)] at this
                exact this
          · rw [decide_eq_false he]
            exact iteF (iteF ⟨_, rfl, s3, nxt (by rw [rowOk_some, decide_eq_true (show r ≠ [] from he), Bool.true_or, Bool.true_or])⟩)
      · rintro σ H2 ⟨x5, rfl, s2, hall⟩
        refine ⟨x5, rfl, s2, ?_⟩
        unfold okRows
        rw [List.all_eq_true]
        exact fun k hk => hall k (List.mem_range.mp hk)
    rintro σ H2 ⟨y5, rfl, s2, hok⟩
    have hrow : ∀ k < 7, ∃ (v : V) (r : List Str) (L : Addr), rv[k]? = some v ∧ v = .ref L ∧ H1 L = some (.lst (r.map V.str)) ∧ ps[k]? = some (some r) ∧ rowK ps k = r ∧ (k ≠ 0 → k ≠ 6 → r ≠ []) ∧ (∀ z ∈ r, Wn z) ∧ r.length ≤ 102 := fun k hk => by
      obtain ⟨o, ho⟩ : ∃ o, ps[k]? = some o := ⟨_, List.getElem?_eq_getElem (by omega)⟩
      have hrv := pv.length
      obtain ⟨v, hv⟩ : ∃ v, rv[k]? = some v := ⟨_, List.getElem?_eq_getElem (by omega)⟩
      obtain ⟨o', ho', pvo⟩ := pair_at pv hv
      obtain rfl := Option.some.inj (ho'.symm.trans ho)
      have hg : ps.getD k none = o' := by rw [List.getD_eq_getElem?_getD, ho]; rfl
      have hk' := List.all_eq_true.mp hok k (List.mem_range.mpr hk)
      rw [hg] at hk'
      cases o' with
      | none => cases hk'
      | some r =>
        obtain ⟨L, e, eL⟩ := pvo
        have w := hrw r (List.mem_of_getElem? ho)
        refine ⟨v, r, L, hv, e, eL, ho, by unfold rowK; rw [hg]; rfl, fun h0 h6 => ?_, w.1, w.2⟩
        rw [rowOk_some, decide_eq_false h0, decide_eq_false h6, Bool.or_false, Bool.or_false] at hk'
        exact of_decide_eq_true hk'
    have eD2 := s2 _ _ eD
    obtain ⟨v1, r1, L1, hv1, rfl, e1, hp1, k1, n1, w1, b1⟩ := hrow 1 (by decide)
    obtain ⟨v2, r2, L2', hv2, rfl, e2, hp2, k2, n2, w2, b2⟩ := hrow 2 (by decide)
    obtain ⟨v3, r3, L3, hv3, rfl, e3, hp3, k3, n3, w3, b3⟩ := hrow 3 (by decide)
    have n1 := n1 (by decide) (by decide)
    have n2 := n2 (by decide) (by decide)
    have n3 := n3 (by decide) (by decide)
    have hends : endsL ps s t = [(s, firstN (rowK ps 1)), (firstN (rowK ps 1), lastN (rowK ps 1)), (lastN (rowK ps 1), lastN (rowK ps 2)), (firstN (rowK ps 1), lastN (rowK ps 3)), (lastN (rowK ps 3), lastN (rowK ps 2)), (lastN (rowK ps 1), lastN (rowK ps 3)), (lastN (rowK ps 2), t)] := rfl
    have hin : innerL ps = [firstN r1, lastN r1, lastN r3, lastN r2] ++ (ps.map fun o => innerOf (o.getD [])).flatten := by
      unfold innerL
      rw [k1, k2, k3]
    refine ⟨_, rfl, D, _, 1, _, rfl, rfl, SqL.of eD2, atI_nat (j := 1) hv1, L1, _, 0, .str (firstN r1), rfl, rfl, SqL.of (s2 _ _ e1), atI_nat (j := 0) (by rw [List.getElem?_map, at_first n1]; rfl), ?_⟩
    refine ⟨_, rfl, D, _, 1, _, rfl, rfl, SqL.of eD2, atI_nat (j := 1) hv1, 1, rfl, L1, _, _, .str (lastN r1), rfl, rfl, SqL.of (s2 _ _ e1), atI_last (by rw [List.length_map, List.getElem?_map, at_last n1]; rfl), ?_⟩
    refine ⟨_, rfl, D, _, 3, _, rfl, rfl, SqL.of eD2, atI_nat (j := 3) hv3, 1, rfl, L3, _, _, .str (lastN r3), rfl, rfl, SqL.of (s2 _ _ e3), atI_last (by rw [List.length_map, List.getElem?_map, at_last n3]; rfl), ?_⟩
    refine ⟨_, rfl, D, _, 2, _, rfl, rfl, SqL.of eD2, atI_nat (j := 2) hv2, 1, rfl, L2', _, _, .str (lastN r2), rfl, rfl, SqL.of (s2 _ _ e2), atI_last (by rw [List.length_map, List.getElem?_map, at_last n2]; rfl), ?_⟩
    rw [k1, k2, k3] at hends
    generalize firstN r1 = c at hends hin
    generalize lastN r1 = x at hends hin
    generalize lastN r3 = v at hends hin
    generalize lastN r2 = m at hends hin
    refine ⟨by show 4 ≤ sizeLine; decide, fun Tq nT => ?_⟩
    have s3 := s2.trans (same_upd (o := .tup [V.str c, V.str x, V.str v, V.str m]) nT)
    have eT : (upd H2 Tq (.tup [V.str c, V.str x, V.str v, V.str m])) Tq = some (.tup [V.str c, V.str x, V.str v, V.str m]) := upd_same
    generalize upd H2 Tq (.tup [V.str c, V.str x, V.str v, V.str m]) = H3 at s3 eT ⊢
    refine ⟨Tq, _, rfl, SqT.of eT, rfl, _, _, rfl, _, _, rfl, _, _, rfl, _, _, rfl, rfl, ?_⟩
    dsimp only [List.set_cons_zero, List.set_cons_succ]
    clear eT
    refine ⟨_, rfl, _, rfl, by show 2 ≤ sizeLine; decide, fun T0 g0 => ?_⟩
    have z0 := same_upd (o := .tup [.str s, .str c]) g0
    have x0 : (upd H3 T0 (.tup [.str s, .str c])) T0 = some (.tup [.str s, .str c]) := upd_same
    have s4 := s3.trans z0
    generalize upd H3 T0 (.tup [.str s, .str c]) = H4 at x0 s4 z0 ⊢
    clear z0
    refine ⟨_, rfl, _, rfl, by show 2 ≤ sizeLine; decide, fun T1 g1 => ?_⟩
    have z1 := same_upd (o := .tup [.str c, .str x]) g1
    have x1 : (upd H4 T1 (.tup [.str c, .str x])) T1 = some (.tup [.str c, .str x]) := upd_same
    have s5 := s4.trans z1
    have x0 := z1 _ _ x0
    generalize upd H4 T1 (.tup [.str c, .str x]) = H5 at x0 x1 s5 z1 ⊢
    clear z1
    refine ⟨_, rfl, _, rfl, by show 2 ≤ sizeLine; decide, fun T2 g2 => ?_⟩
    have z2 := same_upd (o := .tup [.str x, .str m]) g2
    have x2 : (upd H5 T2 (.tup [.str x, .str m])) T2 = some (.tup [.str x, .str m]) := upd_same
    have s6 := s5.trans z2
    have x0 := z2 _ _ x0
    have x1 := z2 _ _ x1
    generalize upd H5 T2 (.tup [.str x, .str m]) = H6 at x0 x1 x2 s6 z2 ⊢
    clear z2
    refine ⟨_, rfl, _, rfl, by show 2 ≤ sizeLine; decide, fun T3 g3 => ?_⟩
    have z3 := same_upd (o := .tup [.str c, .str v]) g3
    have x3 : (upd H6 T3 (.tup [.str c, .str v])) T3 = some (.tup [.str c, .str v]) := upd_same
    have s7 := s6.trans z3
    have x0 := z3 _ _ x0
    have x1 := z3 _ _ x1
    have x2 := z3 _ _ x2
    generalize upd H6 T3 (.tup [.str c, .str v]) = H7 at x0 x1 x2 x3 s7 z3 ⊢
    clear z3
    refine ⟨_, rfl, _, rfl, by show 2 ≤ sizeLine; decide, fun T4 g4 => ?_⟩
    have z4 := same_upd (o := .tup [.str v, .str m]) g4
    have x4 : (upd H7 T4 (.tup [.str v, .str m])) T4 = some (.tup [.str v, .str m]) := upd_same
    have s8 := s7.trans z4
    have x0 := z4 _ _ x0
    have x1 := z4 _ _ x1
    have x2 := z4 _ _ x2
    have x3 := z4 _ _ x3
    generalize upd H7 T4 (.tup [.str v, .str m]) = H8 at x0 x1 x2 x3 x4 s8 z4 ⊢
    clear z4
    refine ⟨_, rfl, _, rfl, by show 2 ≤ sizeLine; decide, fun T5 g5 => ?_⟩
    have z5 := same_upd (o := .tup [.str x, .str v]) g5
    have x5 : (upd H8 T5 (.tup [.str x, .str v])) T5 = some (.tup [.str x, .str v]) := upd_same
    have s9 := s8.trans z5
    have x0 := z5 _ _ x0
    have x1 := z5 _ _ x1
    have x2 := z5 _ _ x2
    have x3 := z5 _ _ x3
    have x4 := z5 _ _ x4
    generalize upd H8 T5 (.tup [.str x, .str v]) = H9 at x0 x1 x2 x3 x4 x5 s9 z5 ⊢
    clear z5
    refine ⟨_, rfl, _, rfl, by show 2 ≤ sizeLine; decide, fun T6 g6 => ?_⟩
    have z6 := same_upd (o := .tup [.str m, .str t]) g6
    have x6 : (upd H9 T6 (.tup [.str m, .str t])) T6 = some (.tup [.str m, .str t]) := upd_same
    have s10 := s9.trans z6
    have x0 := z6 _ _ x0
    have x1 := z6 _ _ x1
    have x2 := z6 _ _ x2
    have x3 := z6 _ _ x3
    have x4 := z6 _ _ x4
    have x5 := z6 _ _ x5
    generalize upd H9 T6 (.tup [.str m, .str t]) = H10 at x0 x1 x2 x3 x4 x5 x6 s10 z6 ⊢
    clear z6
    clear g0 g1 g2 g3 g4 g5 g6 s3 s4 s5 s6 s7 s8 s9
    refine ⟨by show 7 ≤ sizeLine; decide, fun B nB => ?_⟩
    have sB := same_upd (o := .lst [.ref T0, .ref T1, .ref T2, .ref T3, .ref T4, .ref T5, .ref T6]) nB
    have pT : Paired (PairT H10) [T0, T1, T2, T3, T4, T5, T6] (endsL ps s t) := by
      rw [hends]
      exact .cons x0 (.cons x1 (.cons x2 (.cons x3 (.cons x4 (.cons x5 (.cons x6 .nil))))))
    have eB : (upd H10 B (.lst [.ref T0, .ref T1, .ref T2, .ref T3, .ref T4, .ref T5, .ref T6])) B = some (.lst ([T0, T1, T2, T3, T4, T5, T6].map V.ref)) := upd_same
    have pT : Paired (PairT (upd H10 B (.lst [.ref T0, .ref T1, .ref T2, .ref T3, .ref T4, .ref T5, .ref T6]))) [T0, T1, T2, T3, T4, T5, T6] (endsL ps s t) := pT.mono fun a b h => sB _ _ h
    have s11 := s10.trans sB
    generalize upd H10 B (.lst [.ref T0, .ref T1, .ref T2, .ref T3, .ref T4, .ref T5, .ref T6]) = H11 at s11 eB pT ⊢
    clear x0 x1 x2 x3 x4 x5 x6 sB s10 nB nT
    refine ⟨fun σ H' => ∃ (y5 : Option V), σ = [some (.ref l), some (.str s), some (.str t), some (.ref p), some (.ref D), y5, some (.str c), some (.str x), some (.str v), some (.str m), some (.ref B), none, none, none] ∧ Same H1 H' ∧ (List.range 7).all (fun k => betB (rowK ps k) ((endsL ps s t).getD k ("", "")).1 ((endsL ps s t).getD k ("", "")).2) = true, ?_, ?_⟩
    · refine ⟨7, rfl, by decide, by decide, ?_⟩
      refine for_range (lo := 0) (n := 7) (fun i σ H' => ∃ (y5 : Option V), σ = [some (.ref l), some (.str s), some (.str t), some (.ref p), some (.ref D), y5, some (.str c), some (.str x), some (.str v), some (.str m), some (.ref B), none, none, none] ∧ Same H11 H' ∧ ∀ k < i, betB (rowK ps k) ((endsL ps s t).getD k ("", "")).1 ((endsL ps s t).getD k ("", "")).2 = true) ⟨_, rfl, Same.refl _, fun k hk => absurd hk (Nat.not_lt_zero k)⟩ ?_ ?_
      · rintro i σ H12 hi ⟨y5, rfl, s12, hall⟩
        obtain ⟨vi, ri, Li, hvi, rfl, ei, hpi, ki, _, wi, _⟩ := hrow i hi
        obtain ⟨Ti, hTi⟩ : ∃ Ti, [T0, T1, T2, T3, T4, T5, T6][i]? = some Ti := ⟨_, List.getElem?_eq_getElem (by simpa using hi)⟩
        obtain ⟨e, he, eTi⟩ := pair_at pT hTi
        have hge : (endsL ps s t).getD i ("", "") = e := by rw [List.getD_eq_getElem?_getD, he]; rfl
        have eTi : H12 Ti = some (.tup [.str e.1, .str e.2]) := s12 _ _ eTi
        have eD12 := s12 _ _ (s11 _ _ eD)
        have eB12 := s12 _ _ eB
        have hTv : ([T0, T1, T2, T3, T4, T5, T6].map V.ref)[i]? = some (.ref Ti) := by rw [List.getElem?_map, hTi]; rfl
        have ei12 : RowS H12 Li ri := s12 _ _ (s11 _ _ ei)
        simp only [Int.zero_add]
        refine ⟨_, rfl, _, rfl, D, _, (i : Int), _, rfl, rfl, SqL.of eD12, atI_nat hvi, ?_⟩
        refine ⟨_, rfl, _, rfl, B, _, (i : Int), _, rfl, rfl, SqL.of eB12, atI_nat hTv, Ti, _, 0, .str e.1, rfl, rfl, SqT.of eTi, atI_nat (j := 0) rfl, ?_⟩
        refine ⟨_, rfl, _, rfl, B, _, (i : Int), _, rfl, rfl, SqL.of eB12, atI_nat hTv, Ti, _, 1, .str e.2, rfl, rfl, SqT.of eTi, atI_nat (j := 1) rfl, ?_⟩
        refine ⟨Li, ri, e.1, e.2, rfl, ei12, wi, fun H13 s13 => ⟨_, rfl, ?_⟩⟩
        cases hb : betB ri e.1 e.2 with
        | false =>
          refine iteT ?_
          have := k H13 (s1.trans (s11.trans (s12.trans s13)))
          rw [hdue] at this
          have hf : ((List.range 7).all fun k => betB (rowK ps k) ((endsL ps s t).getD k ("", "")).1 ((endsL ps s t).getD k ("", "")).2) = false := by
            rw [List.all_eq_false]
            refine ⟨i, List.mem_range.mpr hi, ?_⟩
            rw [hge, ki, hb]
            decide
          have he2 : (okRows ps && ((List.range 7).all fun k => betB (rowK ps k) ((endsL ps s t).getD k ("", "")).1 ((endsL ps s t).getD k ("", "")).2) && onceB (innerL ps)) = false := by rw [hf, Bool.and_false, Bool.false_and]
          have this : Q (.bl (okRows ps && ((List.range 7).all fun k => betB (rowK ps k) ((endsL ps s t).getD k ("", "")).1 ((endsL ps s t).getD k ("", "")).2) && onceB (innerL ps))) H13 := this
          rw [he2] at this
          exact this
        | true =>
          refine iteF ⟨_, rfl, s12.trans s13, fun k hk => ?_⟩
          rcases Nat.lt_or_ge k i with h | h
          · exact hall k h
          · obtain rfl : k = i := by omega
            rw [hge, ki]
            exact hb
      · rintro σ H12 ⟨y5, rfl, s12, hall⟩
        exact ⟨y5, rfl, s11.trans s12, List.all_eq_true.mpr fun k hk => hall k (List.mem_range.mp hk)⟩
    rintro σ H12 ⟨y5, rfl, s12, hbet⟩
    clear pT eB s11 eD2 s2
    refine ⟨_, rfl, _, rfl, _, rfl, _, rfl, by show 4 ≤ sizeLine; decide, fun I0 nI => ?_⟩
    have sI := s12.trans (same_upd (o := .lst [V.str c, V.str x, V.str v, V.str m]) nI)
    have eI : (upd H12 I0 (.lst [V.str c, V.str x, V.str v, V.str m])) I0 = some (.lst [V.str c, V.str x, V.str v, V.str m]) := upd_same
    generalize upd H12 I0 (.lst [V.str c, V.str x, V.str v, V.str m]) = H13 at sI eI ⊢
    clear s12 nI
    have hil : ∀ i, ((((ps.take i).map fun o => innerOf (o.getD [])).flatten).length ≤ 714) := fun i => by
      refine Nat.le_trans (flat_len 102 _ fun r hr => ?_) (by rw [List.length_map, List.length_take]; omega)
      obtain ⟨o, ho, rfl⟩ := List.mem_map.mp hr
      cases o with
      | none => exact Nat.zero_le _
      | some r =>
        have := (hrw r (List.mem_of_mem_take ho)).2
        unfold innerOf
        rw [List.length_drop, List.length_take]
        show min (r.length - 1) r.length - 1 ≤ 102
        omega
    refine ⟨fun σ H' => ∃ (y5 y12 : Option V) (I1 : Addr), σ = [some (.ref l), some (.str s), some (.str t), some (.ref p), some (.ref D), y5, some (.str c), some (.str x), some (.str v), some (.str m), some (.ref B), some (.ref I1), y12, none] ∧ Same H1 H' ∧ H' I1 = some (.lst ((innerL ps).map V.str)), ?_, ?_⟩
    · refine ⟨_, rfl, D, rfl, ⟨_, SqL.of (sI _ _ eD)⟩, ?_⟩
      refine for_list (K := K) (a := D) (xs := rv) (fun i σ H' => ∃ (y12 : Option V) (I1 : Addr), σ = [some (.ref l), some (.str s), some (.str t), some (.ref p), some (.ref D), y5, some (.str c), some (.str x), some (.str v), some (.str m), some (.ref B), some (.ref I1), y12, none] ∧ Same H1 H' ∧ H' I1 = some (.lst (([c, x, v, m] ++ ((ps.take i).map fun o => innerOf (o.getD [])).flatten).map V.str))) ⟨_, I0, rfl, sI, eI⟩ (fun i σ H' _ ⟨_, _, _, s, _⟩ => SqL.of (s _ _ eD)) ?_ ?_
      · rintro i u σ H14 hu ⟨y12, I1, rfl, s14, e14⟩
        have hi : i < 7 := by
          have := (List.getElem?_eq_some_iff.mp hu).1
          rw [pv.length] at this
          omega
        obtain ⟨vi, ri, Li, hvi, rfl, ei, hpi, ki, _, wi, _⟩ := hrow i hi
        obtain rfl := Option.some.inj (hvi.symm.trans hu)
        have ei14 := s14 _ _ ei
        refine ⟨_, rfl, _, rfl, _, rfl, 1, rfl, _, rfl, Li, _, rfl, SqL.of ei14, fun Pl nP => ?_⟩
        rw [cut_in, List.length_map, ← List.map_take, ← List.map_drop]
        have s15 := s14.trans (same_upd (o := .lst (((ri.take (ri.length - 1)).drop 1).map V.str)) nP)
        have eP : (upd H14 Pl (.lst (((ri.take (ri.length - 1)).drop 1).map V.str))) Pl = some (.lst ((innerOf ri).map V.str)) := upd_same
        have e15 := same_upd (o := .lst (((ri.take (ri.length - 1)).drop 1).map V.str)) nP _ _ e14
        generalize upd H14 Pl (.lst (((ri.take (ri.length - 1)).drop 1).map V.str)) = H15 at s15 eP e15 ⊢
        have hnew : [c, x, v, m] ++ ((ps.take (i + 1)).map fun o => innerOf (o.getD [])).flatten = ([c, x, v, m] ++ ((ps.take i).map fun o => innerOf (o.getD [])).flatten) ++ innerOf ri := by
          rw [take_more hpi, List.map_append, List.flatten_append, ← List.append_assoc]
          simp only [List.map_cons, List.map_nil, List.flatten_cons, List.flatten_nil, List.append_nil, Option.getD_some]
        have hl2 := hil (i + 1)
        have hl3 : ([c, x, v, m] ++ ((ps.take (i + 1)).map fun o => innerOf (o.getD [])).flatten).length ≤ 718 := by
          rw [List.length_append]
          simp only [List.length_cons, List.length_nil]
          omega
        rw [hnew, List.length_append] at hl3
        refine ⟨I1, Pl, _, _, rfl, rfl, e15, eP, Nat.le_of_lt (small1000 (by rw [List.length_map, List.length_map]; omega)), fun O nO => ?_⟩
        refine ⟨_, O, rfl, s15.trans (same_upd nO), ?_⟩
        rw [upd_same, hnew, List.map_append (l₂ := innerOf ri)]
      · rintro σ H14 ⟨y12, I1, rfl, s14, e14⟩
        refine ⟨y5, y12, I1, rfl, s14, ?_⟩
        rw [e14, hin, pv.length, List.take_length]
    rintro σ H14 ⟨y5, y12, I1, rfl, s14, e14⟩
    have hlin : (innerL ps).length ≤ 718 := by
      have := hil 7
      rw [List.take_of_length_le (by omega)] at this
      rw [hin, List.length_append]
      simp only [List.length_cons, List.length_nil]
      omega
    generalize hinn : innerL ps = inn at e14 hlin
    refine ⟨_, rfl, I1, _, rfl, .inl (SqL.of e14), ?_⟩
    rw [List.length_map]
    refine ⟨(inn.length : Nat), rfl, by omega, by omega, fun D2 nD2 => ?_⟩
    have ID : I1 ≠ D2 := ne_of_none e14 nD2
    rw [Int.toNat_natCast]
    refine lc_range (lo := 0) (n := inn.length) (fun i H' => Same H14 H' ∧ H' D2 = some (.lst (((List.range i).map fun k => !decide (inn.getD k "" ∈ inn.take k)).map V.bl))) ⟨same_upd nD2, upd_same⟩ ?_ ?_
    · rintro i H15 hi ⟨s15, e15⟩
      have hz : inn[i]? = some (inn.getD i "") := by
        rw [List.getD_eq_getElem?_getD, List.getElem?_eq_getElem hi]; rfl
      have eI15 := s15 _ _ e14
      simp only [Int.zero_add]
      refine ⟨rfl, _, rfl, _, rfl, I1, _, (i : Int), .str (inn.getD i ""), rfl, rfl, SqL.of eI15, atI_nat (by rw [List.getElem?_map, hz]; rfl), ?_⟩
      refine ⟨_, rfl, _, rfl, _, rfl, I1, _, rfl, SqL.of eI15, fun Pl nP => ?_⟩
      rw [cutA_take, ← List.map_take]
      have s16 := s15.trans (same_upd (o := .lst ((inn.take i).map V.str)) nP)
      refine ⟨Pl, _, rfl, .inl (SqL.of upd_same), rfl, flat_names _, _, same_upd nP _ _ e15, small1000 (by rw [List.length_map, List.length_map, List.length_range]; omega), same_keep nD2 s16, ?_⟩
      rw [if_pos rfl, inV_names, upd_same, List.range_succ, List.map_append, List.map_append]
      rfl
    rintro H15 ⟨s15, e15⟩
    refine ⟨D2, _, rfl, SqL.of e15, ?_⟩
    have := k H15 (s1.trans (s14.trans s15))
    rw [hdue] at this
    have he2 : (okRows ps && ((List.range 7).all fun k => betB (rowK ps k) ((endsL ps s t).getD k ("", "")).1 ((endsL ps s t).getD k ("", "")).2) && onceB (innerL ps)) = ((List.range inn.length).map fun k => !decide (inn.getD k "" ∈ inn.take k)).all id := by
      rw [hok, hbet, hinn, Bool.true_and, Bool.true_and, List.all_map]
      rfl
    have this : Q (.bl (okRows ps && ((List.range 7).all fun k => betB (rowK ps k) ((endsL ps s t).getD k ("", "")).1 ((endsL ps s t).getD k ("", "")).2) && onceB (innerL ps))) H15 := this
    rw [he2] at this
    exact this
end

/-! ### both answers are one -/
def Cont (ts : List Ent) (f : Str) (r : List Str) : Prop := r.map (tailOf ts) = (f :: r.map (headOf ts)).dropLast
instance (ts : List Ent) (f : Str) (r : List Str) : Decidable (Cont ts f r) := by unfold Cont; infer_instance
def Kn (ts : List Ent) (r : List Str) : Prop := ∀ z ∈ r, z ∈ names ts
instance (ts : List Ent) (r : List Str) : Decidable (Kn ts r) := by unfold Kn; infer_instance
theorem cont_cons {ts : List Ent} {f n : Str} {r : List Str} : Cont ts f (n :: r) ↔ tailOf ts n = f ∧ Cont ts (headOf ts n) r := by
  unfold Cont
  rw [List.map_cons, List.map_cons, List.dropLast_cons_of_ne_nil (by simp)]
  constructor
  · intro h
    injection h with h1 h2
    exact ⟨h1, h2⟩
  · rintro ⟨h1, h2⟩
    rw [h1, h2]
theorem cont_nil {ts : List Ent} {f : Str} : Cont ts f [] := rfl
theorem kn_nil {ts : List Ent} : Kn ts [] := fun z hz => absurd hz List.not_mem_nil
theorem found_th {ts : List Ent} {n : Str} {e : Str × Str} (h : found ts n = some e) : tailOf ts n = e.1 ∧ headOf ts n = e.2 := by
  unfold tailOf headOf
  rw [h]
  exact ⟨rfl, rfl⟩
theorem found_kn {ts : List Ent} {n : Str} : n ∈ names ts ↔ ∃ e, found ts n = some e := by
  have := found_some (es := ts) (n := n)
  constructor
  · exact found_in
  · rintro ⟨e, he⟩
    rw [he] at this
    exact of_decide_eq_true this.symm
theorem last_put {acc : List Str} (e : Str × Str) : lastN (putP acc e) = e.2 := by
  unfold putP lastN
  rw [List.length_append, List.length_singleton, List.getD_eq_getElem?_getD]
  generalize (if acc = [] then [e.1] else acc) = l
  rw [show l.length + 1 - 1 = l.length by omega, List.getElem?_append_right (Nat.le_refl _), Nat.sub_self]
  rfl
theorem plc_on {ts : List Ent} : ∀ {r acc : List Str}, acc ≠ [] → plc ts acc r = if Kn ts r ∧ Cont ts (lastN acc) r then some (acc ++ r.map (headOf ts)) else none
  | [], acc, _ => by
    rw [if_pos ⟨kn_nil, cont_nil⟩]
    unfold plc
    rw [List.map_nil, List.append_nil]
  | n :: r, acc, ha => by
    unfold plc
    cases hf : found ts n with
    | none =>
      rw [if_neg]
      rintro ⟨h, _⟩
      obtain ⟨e, he⟩ := found_kn.mp (h n List.mem_cons_self)
      rw [hf] at he
      cases he
    | some e =>
      obtain ⟨h1, h2⟩ := found_th hf
      show (if acc ≠ [] ∧ lastN acc ≠ e.1 then none else plc ts (putP acc e) r) = _
      by_cases hl : lastN acc = e.1
      · rw [if_neg (fun h => h.2 hl), plc_on (by unfold putP; simp), last_put]
        have hp : putP acc e = acc ++ [e.2] := by unfold putP; rw [if_neg ha]
        rw [hp]
        have iff : (Kn ts r ∧ Cont ts e.2 r) ↔ (Kn ts (n :: r) ∧ Cont ts (lastN acc) (n :: r)) := by
          rw [cont_cons, h1, h2, hl]
          constructor
          · rintro ⟨a, b⟩
            refine ⟨fun z hz => ?_, rfl, b⟩
            rcases List.mem_cons.mp hz with h | h
            · rw [h]; exact found_kn.mpr ⟨e, hf⟩
            · exact a z h
          · rintro ⟨a, _, b⟩
            exact ⟨fun z hz => a z (List.mem_cons_of_mem _ hz), b⟩
        by_cases hc : Kn ts r ∧ Cont ts e.2 r
        · rw [if_pos hc, if_pos (iff.mp hc), List.map_cons, h2, List.append_assoc]
          rfl
        · rw [if_neg hc, if_neg (fun h => hc (iff.mpr h))]
      · rw [if_pos ⟨ha, hl⟩, if_neg]
        rintro ⟨_, h⟩
        rw [cont_cons, h1] at h
        exact hl h.1.symm
theorem places_of (ts : List Ent) (r : List Str) : placesL ts r = if r = [] then some [] else if Kn ts r ∧ Cont ts (tailOf ts (firstN r)) r then some (stopsOf ts r (tailOf ts (firstN r))) else none := by
  cases r with
  | nil => rfl
  | cons n r =>
    rw [if_neg (List.cons_ne_nil n r)]
    unfold placesL plc
    show (match found ts n with | none => none | some e => if ([] : List Str) ≠ [] ∧ lastN [] ≠ e.1 then none else plc ts (putP [] e) r) = if Kn ts (n :: r) ∧ Cont ts (tailOf ts n) (n :: r) then _ else _
    cases hf : found ts n with
    | none =>
      rw [if_neg]
      rintro ⟨h, _⟩
      obtain ⟨e, he⟩ := found_kn.mp (h n List.mem_cons_self)
      rw [hf] at he
      cases he
    | some e =>
      obtain ⟨h1, h2⟩ := found_th hf
      show (if ([] : List Str) ≠ [] ∧ lastN [] ≠ e.1 then none else plc ts (putP [] e) r) = _
      rw [if_neg (fun h => h.1 rfl), plc_on (by unfold putP; simp), last_put]
      have iff : (Kn ts r ∧ Cont ts e.2 r) ↔ (Kn ts (n :: r) ∧ Cont ts (tailOf ts n) (n :: r)) := by
        rw [cont_cons, h2]
        constructor
        · rintro ⟨a, b⟩
          refine ⟨fun z hz => ?_, rfl, b⟩
          rcases List.mem_cons.mp hz with h | h
          · rw [h]; exact found_kn.mpr ⟨e, hf⟩
          · exact a z h
        · rintro ⟨a, _, b⟩
          exact ⟨fun z hz => a z (List.mem_cons_of_mem _ hz), b⟩
      have hs : putP [] e ++ r.map (headOf ts) = stopsOf ts (n :: r) (tailOf ts n) := by
        unfold putP stopsOf
        rw [if_pos rfl, List.map_cons, h1, h2]
        rfl
      by_cases hc : Kn ts r ∧ Cont ts e.2 r
      · rw [if_pos hc, if_pos (iff.mp hc), hs]
        rfl
      · rw [if_neg hc, if_neg (fun h => hc (iff.mpr h))]
theorem conB_iff {ts : List Ent} {r : List Str} {f g : Str} : conB ts r f g = true ↔ Cont ts f r ∧ lastOf f (r.map (headOf ts)) = g := by
  unfold conB Cont
  rw [Bool.and_eq_true, decide_eq_true_eq, decide_eq_true_eq]
theorem lastOf_ne {ts : List Ent} {r : List Str} (h : r ≠ []) (f : Str) : lastOf f (r.map (headOf ts)) = headOf ts (lastN r) := by
  have h1 := at_last h
  have h2 := lastOf_at f (r.map (headOf ts))
  have hl : 0 < r.length := List.length_pos_iff.mpr h
  rw [List.length_cons, List.length_map, show r.length + 1 - 1 = (r.length - 1) + 1 by omega, List.getElem?_cons_succ, List.getElem?_map, h1] at h2
  exact (Option.some.inj h2).symm
theorem first_stops (ts : List Ent) (r : List Str) (f : Str) : firstN (stopsOf ts r f) = f := rfl
theorem last_stops {ts : List Ent} {r : List Str} (h : r ≠ []) (f : Str) : lastN (stopsOf ts r f) = headOf ts (lastN r) := by
  rw [← lastOf_ne h f]
  have h2 := lastOf_at f (r.map (headOf ts))
  unfold lastN stopsOf
  rw [List.getD_eq_getElem?_getD, h2]
  rfl
theorem onceB_iff {l : List Str} : onceB l = true ↔ l.Nodup := by
  unfold onceB
  rw [List.all_eq_true]
  constructor
  · intro h
    refine List.pairwise_iff_getElem.mpr fun i j hi hj hij e => ?_
    have := h j (List.mem_range.mpr hj)
    rw [Bool.not_eq_true', decide_eq_false_iff_not] at this
    refine this ?_
    rw [List.getD_eq_getElem?_getD, List.getElem?_eq_getElem hj]
    show l[j] ∈ l.take j
    rw [← e]
    exact List.mem_take_iff_getElem.mpr ⟨i, by omega, rfl⟩
  · intro h k hk
    have hk := List.mem_range.mp hk
    rw [Bool.not_eq_true', decide_eq_false_iff_not, List.getD_eq_getElem?_getD, List.getElem?_eq_getElem hk]
    intro hm
    obtain ⟨i, hi, e⟩ := List.mem_take_iff_getElem.mp hm
    exact List.pairwise_iff_getElem.mp h i k (by omega) hk (by omega) e
theorem apartB_iff {rows : List (List Str)} : apartB rows = true ↔ ∀ (i : Nat) (r : List Str), rows[i]? = some r → ∀ p ∈ innerOf r, ∀ (j : Nat) (o : List Str), rows[j]? = some o → j ≠ i → p ∉ o := by
  unfold apartB
  rw [List.all_eq_true]
  constructor
  · intro h i r hr p hp j o ho hne hm
    have h1 := h i (List.mem_range.mpr (List.getElem?_eq_some_iff.mp hr).1)
    rw [List.getD_eq_getElem?_getD, hr] at h1
    have h2 := List.all_eq_true.mp h1 p hp
    rw [Bool.not_eq_true'] at h2
    unfold hitB at h2
    have h3 := List.any_eq_false.mp h2 o (List.mem_eraseIdx_iff_getElem?.mpr ⟨j, hne, ho⟩)
    exact h3 (decide_eq_true hm)
  · intro h i hi
    have hi := List.mem_range.mp hi
    rw [List.getD_eq_getElem?_getD, List.getElem?_eq_getElem hi]
    refine List.all_eq_true.mpr fun p hp => ?_
    rw [Bool.not_eq_true']
    unfold hitB
    refine List.any_eq_false.mpr fun o ho => ?_
    obtain ⟨j, hne, hj⟩ := List.mem_eraseIdx_iff_getElem?.mp ho
    rw [decide_eq_true_eq]
    exact h i rows[i] (List.getElem?_eq_getElem hi) p hp j o hj hne

/-! ### apart, once -/
theorem inner_cons (f : Str) (tl : List Str) : innerOf (f :: tl) = tl.dropLast := by
  unfold innerOf
  rw [List.length_cons, Nat.add_sub_cancel]
  cases tl with
  | nil => rfl
  | cons a l =>
    rw [List.length_cons, List.take_succ_cons, List.drop_succ_cons, List.drop_zero, List.dropLast_eq_take]
    rfl
theorem stops_pw {ts : List Ent} : ∀ {r : List Str} {f : Str}, Cont ts f r → Kn ts r → (stopsOf ts r f).Pairwise (Lead ts)
  | [], f, _, _ => List.pairwise_singleton _ _
  | n :: r, f, hc, hk => by
    obtain ⟨h1, h2⟩ := cont_cons.mp hc
    have ih := stops_pw h2 fun z hz => hk z (List.mem_cons_of_mem _ hz)
    obtain ⟨e, he⟩ := found_in (hk n List.mem_cons_self)
    obtain ⟨t1, t2⟩ := found_th he
    have hl : Lead ts f (headOf ts n) := by
      unfold found at he
      obtain ⟨x, hx, hxe⟩ := Option.map_eq_some_iff.mp he
      have := Lead.one (List.mem_of_find?_eq_some hx)
      rw [hxe, ← t1, ← t2, h1] at this
      exact this
    show (f :: (headOf ts n :: r.map (headOf ts))).Pairwise (Lead ts)
    refine List.pairwise_cons.mpr ⟨fun b hb => ?_, ih⟩
    rcases List.mem_cons.mp hb with h | h
    · rw [h]; exact hl
    · exact hl.trans ((List.pairwise_cons.mp ih).1 b h)
section
variable {ts : List Ent} {s t : Str}
theorem no_in (acy : ∀ p, ¬ Lead ts p p) (use : ∀ e ∈ ts, Useful ts s t e) (q : Str) : ¬ Lead ts q s := fun h => by
  obtain ⟨e, he, hs⟩ := h.last
  have := (use e he).1
  refine acy s ?_
  have h2 : Lead ts s e.2.2 := Lead.step (this.imp Eq.symm id) he
  rw [hs] at h2
  exact h2
theorem no_out (acy : ∀ p, ¬ Lead ts p p) (use : ∀ e ∈ ts, Useful ts s t e) (q : Str) : ¬ Lead ts t q := fun h => by
  obtain ⟨e, he, hs⟩ := h.first
  have := (use e he).2
  refine acy t ?_
  have h1 : Lead ts t e.2.2 := by rw [← hs]; exact Lead.one he
  rcases this with g | g
  · rw [g] at h1; exact h1
  · exact h1.trans g
/-- a row of places: from f to g -/
structure Rw (ts : List Ent) (o : List Str) (f g : Str) : Prop where
  pw : o.Pairwise (Lead ts)
  sh : ∃ tl, o = f :: tl ∧ ((tl = [] ∧ f = g) ∨ tl = tl.dropLast ++ [g])
theorem Rw.of {r : List Str} {f g : Str} (hc : Cont ts f r) (hk : Kn ts r) (hl : lastOf f (r.map (headOf ts)) = g) : Rw ts (stopsOf ts r f) f g := by
  refine ⟨stops_pw hc hk, r.map (headOf ts), rfl, ?_⟩
  cases r with
  | nil => exact .inl ⟨rfl, hl⟩
  | cons n r =>
    refine .inr ?_
    have h1 := lastOf_ne (ts := ts) (List.cons_ne_nil n r) f
    unfold lastOf at hl
    rw [List.getLast_cons (by simp)] at hl
    conv => lhs; rw [← List.dropLast_concat_getLast (l := (n :: r).map (headOf ts)) (by simp), hl]
theorem Rw.fst {o : List Str} {f g : Str} (h : Rw ts o f g) : f ∈ o := by
  obtain ⟨tl, rfl, _⟩ := h.sh
  exact List.mem_cons_self
theorem Rw.lst {o : List Str} {f g : Str} (h : Rw ts o f g) : g ∈ o := by
  obtain ⟨tl, rfl, h2⟩ := h.sh
  rcases h2 with ⟨_, e⟩ | e
  · rw [e]; exact List.mem_cons_self
  · rw [e]; simp
theorem Rw.sub {o : List Str} {f g : Str} (h : Rw ts o f g) {p : Str} (hp : p ∈ innerOf o) : p ∈ o := by
  obtain ⟨tl, rfl, _⟩ := h.sh
  rw [inner_cons] at hp
  exact List.mem_cons_of_mem _ ((List.dropLast_sublist _).mem hp)
theorem Rw.cases {o : List Str} {f g : Str} (h : Rw ts o f g) {p : Str} (hp : p ∈ o) : p = f ∨ p = g ∨ p ∈ innerOf o := by
  obtain ⟨tl, rfl, h2⟩ := h.sh
  rw [inner_cons]
  rcases List.mem_cons.mp hp with e | hp
  · exact .inl e
  · rcases h2 with ⟨e, _⟩ | e
    · rw [e] at hp; cases hp
    · rw [e] at hp
      rcases List.mem_append.mp hp with q | q
      · exact .inr (.inr q)
      · exact .inr (.inl (List.mem_singleton.mp q))
theorem Rw.out {o : List Str} {f g : Str} (h : Rw ts o f g) {p : Str} (hp : p ∈ innerOf o) : Lead ts f p ∧ Lead ts p g := by
  obtain ⟨tl, rfl, h2⟩ := h.sh
  have pw := h.pw
  rw [inner_cons] at hp
  obtain ⟨a, b⟩ := List.pairwise_cons.mp pw
  refine ⟨a p ((List.dropLast_sublist _).mem hp), ?_⟩
  rcases h2 with ⟨e, _⟩ | e
  · rw [e] at hp; cases hp
  · rw [e] at b
    exact (List.pairwise_append.mp b).2.2 p hp g List.mem_cons_self
theorem Rw.lead {o : List Str} {f g : Str} (h : Rw ts o f g) (h2 : 2 ≤ o.length) : Lead ts f g := by
  obtain ⟨tl, rfl, e⟩ := h.sh
  obtain ⟨a, b⟩ := List.pairwise_cons.mp h.pw
  rcases e with ⟨e, _⟩ | e
  · rw [e] at h2; simp at h2
  · exact a g (by rw [e]; simp)
theorem Rw.nd {o : List Str} {f g : Str} (acy : ∀ p, ¬ Lead ts p p) (h : Rw ts o f g) : (innerOf o).Nodup := by
  have : o.Nodup := h.pw.imp fun {a b} hl e => by rw [e] at hl; exact acy _ hl
  unfold innerOf
  exact (this.sublist (List.take_sublist _ _)).sublist (List.drop_sublist _ _)
theorem apart_once (acy : ∀ p, ¬ Lead ts p p) (use : ∀ e ∈ ts, Useful ts s t e) {c x v m : Str} {S : List (List Str)} (h7 : S.length = 7)
    (hr : ∀ (i : Nat) (o : List Str) (e : Str × Str), S[i]? = some o → [(s, c), (c, x), (x, m), (c, v), (v, m), (x, v), (m, t)][i]? = some e → Rw ts o e.1 e.2)
    (h2 : ∀ (i : Nat) (o : List Str), 1 ≤ i → i ≤ 5 → S[i]? = some o → 2 ≤ o.length) : apartB S = onceB ([c, x, v, m] ++ (S.map innerOf).flatten) := by
  have at7 : ∀ i < 7, ∃ o, S[i]? = some o := fun i hi => ⟨_, List.getElem?_eq_getElem (by omega)⟩
  obtain ⟨o1, g1⟩ := at7 1 (by decide)
  obtain ⟨o2, g2⟩ := at7 2 (by decide)
  obtain ⟨o3, g3⟩ := at7 3 (by decide)
  obtain ⟨o4, g4⟩ := at7 4 (by decide)
  obtain ⟨o5, g5⟩ := at7 5 (by decide)
  have R1 := hr 1 o1 (c, x) g1 rfl
  have R2 := hr 2 o2 (x, m) g2 rfl
  have R3 := hr 3 o3 (c, v) g3 rfl
  have R4 := hr 4 o4 (v, m) g4 rfl
  have R5 := hr 5 o5 (x, v) g5 rfl
  have lcx := R1.lead (h2 1 o1 (by decide) (by decide) g1)
  have lxm := R2.lead (h2 2 o2 (by decide) (by decide) g2)
  have lcv := R3.lead (h2 3 o3 (by decide) (by decide) g3)
  have lvm := R4.lead (h2 4 o4 (by decide) (by decide) g4)
  have lxv := R5.lead (h2 5 o5 (by decide) (by decide) g5)
  have ne : ∀ {p q : Str}, Lead ts p q → p ≠ q := fun {p q} h e => by rw [e] at h; exact acy _ h
  have ends : ∀ (i : Nat) (e : Str × Str), [(s, c), (c, x), (x, m), (c, v), (v, m), (x, v), (m, t)][i]? = some e → (e.1 = s ∨ e.1 ∈ [c, x, v, m]) ∧ (e.2 = t ∨ e.2 ∈ [c, x, v, m]) := fun i e he => by
    have hm := List.mem_of_getElem? he
    simp only [List.mem_cons, List.not_mem_nil, or_false] at hm
    rcases hm with rfl | rfl | rfl | rfl | rfl | rfl | rfl <;> simp
  have two : ∀ a ∈ [c, x, v, m], ∀ i : Nat, ∃ (j : Nat) (o : List Str), S[j]? = some o ∧ j ≠ i ∧ a ∈ o := fun a ha i => by
    simp only [List.mem_cons, List.not_mem_nil, or_false] at ha
    rcases ha with rfl | rfl | rfl | rfl
    · by_cases hi : i = 1
      · exact ⟨3, o3, g3, by omega, R3.fst⟩
      · exact ⟨1, o1, g1, fun h => hi h.symm, R1.fst⟩
    · by_cases hi : i = 1
      · exact ⟨2, o2, g2, by omega, R2.fst⟩
      · exact ⟨1, o1, g1, fun h => hi h.symm, R1.lst⟩
    · by_cases hi : i = 3
      · exact ⟨4, o4, g4, by omega, R4.fst⟩
      · exact ⟨3, o3, g3, fun h => hi h.symm, R3.lst⟩
    · by_cases hi : i = 2
      · exact ⟨4, o4, g4, by omega, R4.lst⟩
      · exact ⟨2, o2, g2, fun h => hi h.symm, R2.lst⟩
  have rw_at : ∀ (i : Nat) (o : List Str), S[i]? = some o → ∃ e, [(s, c), (c, x), (x, m), (c, v), (v, m), (x, v), (m, t)][i]? = some e ∧ Rw ts o e.1 e.2 := fun i o ho => by
    have hi := (List.getElem?_eq_some_iff.mp ho).1
    obtain ⟨e, he⟩ : ∃ e, [(s, c), (c, x), (x, m), (c, v), (v, m), (x, v), (m, t)][i]? = some e := ⟨_, List.getElem?_eq_getElem (by simp; omega)⟩
    exact ⟨e, he, hr i o e ho he⟩
  rw [Bool.eq_iff_iff, apartB_iff, onceB_iff]
  constructor
  · intro h
    refine List.nodup_append.mpr ⟨?_, ?_, ?_⟩
    · simp only [List.nodup_cons, List.mem_cons, List.not_mem_nil, or_false, not_or, List.nodup_nil, and_true, not_false_eq_true]
      exact ⟨⟨ne lcx, ne lcv, ne (lcv.trans lvm)⟩, ⟨ne lxv, ne lxm⟩, ne lvm⟩
    · refine List.pairwise_flatten.mpr ⟨fun l hl => ?_, ?_⟩
      · obtain ⟨o, ho, rfl⟩ := List.mem_map.mp hl
        obtain ⟨i, hi⟩ := List.mem_iff_getElem?.mp ho
        obtain ⟨e, _, R⟩ := rw_at i o hi
        exact R.nd acy
      · refine List.pairwise_map.mpr (List.pairwise_iff_getElem.mpr fun i j hi hj hij p hp q hq e => ?_)
        obtain ⟨e', _, R⟩ := rw_at j _ (List.getElem?_eq_getElem hj)
        refine h i _ (List.getElem?_eq_getElem hi) p hp j _ (List.getElem?_eq_getElem hj) (by omega) ?_
        rw [e]
        exact R.sub hq
    · intro a ha b hb e
      obtain ⟨l, hl, hbl⟩ := List.mem_flatten.mp hb
      obtain ⟨o, ho, rfl⟩ := List.mem_map.mp hl
      obtain ⟨i, hi⟩ := List.mem_iff_getElem?.mp ho
      obtain ⟨j, o', ho', hne, hm⟩ := two a ha i
      exact h i o hi b hbl j o' ho' hne (by rw [← e]; exact hm)
  · intro h i r hi p hp j o hj hne hm
    obtain ⟨h3, h4, h5⟩ := List.nodup_append.mp h
    obtain ⟨ei, hei, Ri⟩ := rw_at i r hi
    obtain ⟨ej, hej, Rj⟩ := rw_at j o hj
    have pin : p ∈ (S.map innerOf).flatten := List.mem_flatten.mpr ⟨_, List.mem_map.mpr ⟨r, List.mem_of_getElem? hi, rfl⟩, hp⟩
    have np : p ∉ [c, x, v, m] := fun hc => h5 p hc p pin rfl
    obtain ⟨l1, l2⟩ := Ri.out hp
    rcases Rj.cases hm with e | e | hq
    · rcases (ends j ej hej).1 with g | g
      · rw [e, g] at l1; exact no_in acy use _ l1
      · rw [e] at np; exact np g
    · rcases (ends j ej hej).2 with g | g
      · rw [e, g] at l2; exact no_out acy use _ l2
      · rw [e] at np; exact np g
    · obtain ⟨_, h6⟩ := List.pairwise_flatten.mp h4
      have h7 := List.pairwise_map.mp h6
      have hi' := (List.getElem?_eq_some_iff.mp hi)
      have hj' := (List.getElem?_eq_some_iff.mp hj)
      rcases Nat.lt_or_gt_of_ne hne with z | z
      · exact List.pairwise_iff_getElem.mp h7 j i hj'.1 hi'.1 z p (by rw [hj'.2]; exact hq) p (by rw [hi'.2]; exact hp) rfl
      · exact List.pairwise_iff_getElem.mp h7 i j hi'.1 hj'.1 z p (by rw [hi'.2]; exact hp) p (by rw [hj'.2]; exact hq) rfl
end

/-! ### the program's answer is the law's -/
def rowL (ts : List Ent) (r : List Str) : List Str := if r = [] then [] else stopsOf ts r (tailOf ts (firstN r))
structure Gd (ts : List Ent) (rows : List (List Str)) : Prop where
  ne : ∀ (i : Nat) (r : List Str), 1 ≤ i → i ≤ 5 → rows[i]? = some r → r ≠ []
  kn : ∀ r ∈ rows, Kn ts r
  ct : ∀ r ∈ rows, r = [] ∨ Cont ts (tailOf ts (firstN r)) r
theorem Gd.plc {ts : List Ent} {rows : List (List Str)} (g : Gd ts rows) {r : List Str} (h : r ∈ rows) : placesL ts r = some (rowL ts r) := by
  rw [places_of]
  unfold rowL
  by_cases he : r = []
  · rw [if_pos he, if_pos he]
  · rw [if_neg he, if_neg he, if_pos ⟨g.kn r h, (g.ct r h).resolve_left he⟩]
theorem cont_first {ts : List Ent} {f : Str} {r : List Str} (hne : r ≠ []) (h : Cont ts f r) : tailOf ts (firstN r) = f ∧ Cont ts (tailOf ts (firstN r)) r := by
  cases r with
  | nil => exact absurd rfl hne
  | cons n r =>
    have := (cont_cons.mp h).1
    refine ⟨this, ?_⟩
    show Cont ts (tailOf ts n) (n :: r)
    rw [this]
    exact h
theorem con_bet {ts : List Ent} {r : List Str} {f g : Str} (h : r = [] ∨ Cont ts (tailOf ts (firstN r)) r) : conB ts r f g = betB (rowL ts r) f g := by
  rw [Bool.eq_iff_iff, conB_iff]
  unfold betB rowL
  by_cases he : r = []
  · rw [if_pos he, if_pos rfl, decide_eq_true_eq]
    subst he
    exact ⟨fun h => h.2, fun h => ⟨cont_nil, h⟩⟩
  · rw [if_neg he, if_neg (by unfold stopsOf; simp), Bool.and_eq_true, decide_eq_true_eq, decide_eq_true_eq, first_stops, last_stops he, lastOf_ne he]
    constructor
    · rintro ⟨a, b⟩
      exact ⟨(cont_first he a).1, b⟩
    · rintro ⟨a, b⟩
      exact ⟨by rw [← a]; exact h.resolve_left he, b⟩
theorem pair_due {ts : List Ent} {s t : Str} (acy : ∀ p, ¬ Lead ts p p) (use : ∀ e ∈ ts, Useful ts s t e) {rows : List (List Str)} (h7 : rows.length = 7) : pairB ts s t rows = dueB ts s t rows := by
  obtain ⟨r0, r1, r2, r3, r4, r5, r6, rfl⟩ : ∃ r0 r1 r2 r3 r4 r5 r6, rows = [r0, r1, r2, r3, r4, r5, r6] := by
    match rows, h7 with
    | [a, b, c, d, e, f, g], _ => exact ⟨a, b, c, d, e, f, g, rfl⟩
  have at5 : ∀ (i : Nat) (r : List Str), 1 ≤ i → i ≤ 5 → [r0, r1, r2, r3, r4, r5, r6][i]? = some r → r ∈ [r1, r2, r3, r4, r5] := fun i r h1 h2 h => by
    have : i = 1 ∨ i = 2 ∨ i = 3 ∨ i = 4 ∨ i = 5 := by omega
    rcases this with rfl | rfl | rfl | rfl | rfl <;> (obtain rfl := Option.some.inj h; simp)
  by_cases G : Gd ts [r0, r1, r2, r3, r4, r5, r6]
  · have n1 := G.ne 1 r1 (by decide) (by decide) rfl
    have n2 := G.ne 2 r2 (by decide) (by decide) rfl
    have n3 := G.ne 3 r3 (by decide) (by decide) rfl
    have n4 := G.ne 4 r4 (by decide) (by decide) rfl
    have n5 := G.ne 5 r5 (by decide) (by decide) rfl
    have hps : [r0, r1, r2, r3, r4, r5, r6].map (placesL ts) = [r0, r1, r2, r3, r4, r5, r6].map fun r => some (rowL ts r) := List.map_congr_left fun r hr => G.plc hr
    have hrl : ∀ r, r ≠ [] → firstN (rowL ts r) = tailOf ts (firstN r) ∧ lastN (rowL ts r) = headOf ts (lastN r) ∧ rowL ts r ≠ [] := fun r hr => by
      unfold rowL
      rw [if_neg hr]
      exact ⟨first_stops _ _ _, last_stops hr _, by unfold stopsOf; simp⟩
    have e1 := hrl r1 n1
    have e2 := hrl r2 n2
    have e3 := hrl r3 n3
    have e4 := hrl r4 n4
    have e5 := hrl r5 n5
    have hE : endsL ([r0, r1, r2, r3, r4, r5, r6].map fun r => some (rowL ts r)) s t = pairEnds ts s t r1 r2 r3 := by
      show [(s, firstN (rowL ts r1)), (firstN (rowL ts r1), lastN (rowL ts r1)), (lastN (rowL ts r1), lastN (rowL ts r2)), (firstN (rowL ts r1), lastN (rowL ts r3)), (lastN (rowL ts r3), lastN (rowL ts r2)), (lastN (rowL ts r1), lastN (rowL ts r3)), (lastN (rowL ts r2), t)] = _
      rw [e1.1, e1.2.1, e2.2.1, e3.2.1]
      rfl
    have hI : innerL ([r0, r1, r2, r3, r4, r5, r6].map fun r => some (rowL ts r)) = [tailOf ts (firstN r1), headOf ts (lastN r1), headOf ts (lastN r3), headOf ts (lastN r2)] ++ ([r0, r1, r2, r3, r4, r5, r6].map fun r => innerOf (rowL ts r)).flatten := by
      show [firstN (rowL ts r1), lastN (rowL ts r1), lastN (rowL ts r3), lastN (rowL ts r2)] ++ _ = _
      rw [e1.1, e1.2.1, e2.2.1, e3.2.1]
      rfl
    have hok : okRows ([r0, r1, r2, r3, r4, r5, r6].map fun r => some (rowL ts r)) = true := by
      unfold okRows
      rw [List.all_eq_true]
      intro k hk
      have hk := List.mem_range.mp hk
      have : k = 0 ∨ k = 1 ∨ k = 2 ∨ k = 3 ∨ k = 4 ∨ k = 5 ∨ k = 6 := by omega
      rcases this with rfl | rfl | rfl | rfl | rfl | rfl | rfl
      · show (decide (rowL ts r0 ≠ []) || decide ((0 : Nat) = 0) || decide ((0 : Nat) = 6)) = true
        simp
      · show (decide (rowL ts r1 ≠ []) || decide ((1 : Nat) = 0) || decide ((1 : Nat) = 6)) = true
        rw [decide_eq_true e1.2.2]; rfl
      · show (decide (rowL ts r2 ≠ []) || decide ((2 : Nat) = 0) || decide ((2 : Nat) = 6)) = true
        rw [decide_eq_true e2.2.2]; rfl
      · show (decide (rowL ts r3 ≠ []) || decide ((3 : Nat) = 0) || decide ((3 : Nat) = 6)) = true
        rw [decide_eq_true e3.2.2]; rfl
      · show (decide (rowL ts r4 ≠ []) || decide ((4 : Nat) = 0) || decide ((4 : Nat) = 6)) = true
        rw [decide_eq_true e4.2.2]; rfl
      · show (decide (rowL ts r5 ≠ []) || decide ((5 : Nat) = 0) || decide ((5 : Nat) = 6)) = true
        rw [decide_eq_true e5.2.2]; rfl
      · show (decide (rowL ts r6 ≠ []) || decide ((6 : Nat) = 0) || decide ((6 : Nat) = 6)) = true
        simp
    have hpe : pairEnds ts s t r1 r2 r3 = [(s, tailOf ts (firstN r1)), (tailOf ts (firstN r1), headOf ts (lastN r1)), (headOf ts (lastN r1), headOf ts (lastN r2)), (tailOf ts (firstN r1), headOf ts (lastN r3)), (headOf ts (lastN r3), headOf ts (lastN r2)), (headOf ts (lastN r1), headOf ts (lastN r3)), (headOf ts (lastN r2), t)] := rfl
    have hD : dueB ts s t [r0, r1, r2, r3, r4, r5, r6] = (true && (List.range 7).all (fun k => betB (rowK ([r0, r1, r2, r3, r4, r5, r6].map fun r => some (rowL ts r)) k) ((pairEnds ts s t r1 r2 r3).getD k ("", "")).1 ((pairEnds ts s t r1 r2 r3).getD k ("", "")).2) && onceB ([tailOf ts (firstN r1), headOf ts (lastN r1), headOf ts (lastN r3), headOf ts (lastN r2)] ++ ([r0, r1, r2, r3, r4, r5, r6].map fun r => innerOf (rowL ts r)).flatten)) := by
      show (okRows ([r0, r1, r2, r3, r4, r5, r6].map (placesL ts)) && (List.range 7).all (fun k => betB (rowK ([r0, r1, r2, r3, r4, r5, r6].map (placesL ts)) k) ((endsL ([r0, r1, r2, r3, r4, r5, r6].map (placesL ts)) s t).getD k ("", "")).1 ((endsL ([r0, r1, r2, r3, r4, r5, r6].map (placesL ts)) s t).getD k ("", "")).2) && onceB (innerL ([r0, r1, r2, r3, r4, r5, r6].map (placesL ts)))) = _
      rw [hps, hok, hE, hI]
    have hP : pairB ts s t [r0, r1, r2, r3, r4, r5, r6] = (([r0, r1, r2, r3, r4, r5, r6].zip (pairEnds ts s t r1 r2 r3)).all (fun q => conB ts q.1 q.2.1 q.2.2) && apartB (([r0, r1, r2, r3, r4, r5, r6].zip (pairEnds ts s t r1 r2 r3)).map fun q => stopsOf ts q.1 q.2.1)) := by
      have a1 : ([r1, r2, r3, r4, r5].any fun r => decide (r.length = 0)) = false := by
        rw [List.any_eq_false]
        intro r hr
        have : r ≠ [] := by
          simp only [List.mem_cons, List.not_mem_nil, or_false] at hr
          rcases hr with rfl | rfl | rfl | rfl | rfl <;> assumption
        rw [decide_eq_true_eq]
        exact fun z => this (List.length_eq_zero_iff.mp z)
      have a2 : ([r0, r1, r2, r3, r4, r5, r6].all fun r => r.all fun z => decide (z ∈ names ts)) = true := List.all_eq_true.mpr fun r hr => List.all_eq_true.mpr fun z hz => decide_eq_true (G.kn r hr z hz)
      show (!([r1, r2, r3, r4, r5].any fun r => decide (r.length = 0)) && ([r0, r1, r2, r3, r4, r5, r6].all fun r => r.all fun z => decide (z ∈ names ts)) && (([r0, r1, r2, r3, r4, r5, r6].zip (pairEnds ts s t r1 r2 r3)).all fun q => conB ts q.1 q.2.1 q.2.2) && apartB (([r0, r1, r2, r3, r4, r5, r6].zip (pairEnds ts s t r1 r2 r3)).map fun q => stopsOf ts q.1 q.2.1)) = _
      rw [a1, a2]
      rfl
    have hC : ([r0, r1, r2, r3, r4, r5, r6].zip (pairEnds ts s t r1 r2 r3)).all (fun q => conB ts q.1 q.2.1 q.2.2) = (List.range 7).all (fun k => betB (rowK ([r0, r1, r2, r3, r4, r5, r6].map fun r => some (rowL ts r)) k) ((pairEnds ts s t r1 r2 r3).getD k ("", "")).1 ((pairEnds ts s t r1 r2 r3).getD k ("", "")).2) := by
      have c0 := fun f g => con_bet (f := f) (g := g) (G.ct r0 (by simp))
      have c1 := fun f g => con_bet (f := f) (g := g) (G.ct r1 (by simp))
      have c2 := fun f g => con_bet (f := f) (g := g) (G.ct r2 (by simp))
      have c3 := fun f g => con_bet (f := f) (g := g) (G.ct r3 (by simp))
      have c4 := fun f g => con_bet (f := f) (g := g) (G.ct r4 (by simp))
      have c5 := fun f g => con_bet (f := f) (g := g) (G.ct r5 (by simp))
      have c6 := fun f g => con_bet (f := f) (g := g) (G.ct r6 (by simp))
      rw [hpe]
      simp only [List.zip_cons_cons, List.zip_nil_right, List.all_cons, List.all_nil, c0, c1, c2, c3, c4, c5, c6]
      rfl
    rw [hP, hD, hC, Bool.true_and]
    cases hb : (List.range 7).all (fun k => betB (rowK ([r0, r1, r2, r3, r4, r5, r6].map fun r => some (rowL ts r)) k) ((pairEnds ts s t r1 r2 r3).getD k ("", "")).1 ((pairEnds ts s t r1 r2 r3).getD k ("", "")).2) with
    | false => rfl
    | true =>
    rw [Bool.true_and, Bool.true_and]
    rw [hb] at hC
    have hcon : ∀ (i : Nat) (r : List Str) (e : Str × Str), [r0, r1, r2, r3, r4, r5, r6][i]? = some r → (pairEnds ts s t r1 r2 r3)[i]? = some e → Cont ts e.1 r ∧ lastOf e.1 (r.map (headOf ts)) = e.2 := fun i r e hr he =>
      conB_iff.mp (List.all_eq_true.mp hC (r, e) (List.mem_of_getElem? (List.getElem?_zip_eq_some.mpr ⟨hr, he⟩)))
    have hS : ([r0, r1, r2, r3, r4, r5, r6].map fun r => innerOf (rowL ts r)) = (([r0, r1, r2, r3, r4, r5, r6].zip (pairEnds ts s t r1 r2 r3)).map fun q => stopsOf ts q.1 q.2.1).map innerOf := by
      have z : ∀ (i : Nat) (r : List Str) (e : Str × Str), [r0, r1, r2, r3, r4, r5, r6][i]? = some r → (pairEnds ts s t r1 r2 r3)[i]? = some e → innerOf (rowL ts r) = innerOf (stopsOf ts r e.1) := fun i r e hr he => by
        obtain ⟨c1, _⟩ := hcon i r e hr he
        unfold rowL
        by_cases hn : r = []
        · rw [if_pos hn, hn]; rfl
        · rw [if_neg hn, (cont_first hn c1).1]
      rw [List.map_map]
      show [innerOf (rowL ts r0), innerOf (rowL ts r1), innerOf (rowL ts r2), innerOf (rowL ts r3), innerOf (rowL ts r4), innerOf (rowL ts r5), innerOf (rowL ts r6)] = _
      rw [z 0 r0 _ rfl rfl, z 1 r1 _ rfl rfl, z 2 r2 _ rfl rfl, z 3 r3 _ rfl rfl, z 4 r4 _ rfl rfl, z 5 r5 _ rfl rfl, z 6 r6 _ rfl rfl]
      rfl
    rw [hS]
    have sat : ∀ (i : Nat) (o : List Str), (([r0, r1, r2, r3, r4, r5, r6].zip (pairEnds ts s t r1 r2 r3)).map fun q => stopsOf ts q.1 q.2.1)[i]? = some o → ∃ r e, [r0, r1, r2, r3, r4, r5, r6][i]? = some r ∧ (pairEnds ts s t r1 r2 r3)[i]? = some e ∧ o = stopsOf ts r e.1 := fun i o ho => by
      rw [List.getElem?_map, Option.map_eq_some_iff] at ho
      obtain ⟨q, hq, rfl⟩ := ho
      obtain ⟨a, b⟩ := List.getElem?_zip_eq_some.mp hq
      exact ⟨q.1, q.2, a, b, rfl⟩
    refine apart_once acy use rfl (fun i o e ho he => ?_) fun i o h1 h2 ho => ?_
    · obtain ⟨r, e', hr, he', rfl⟩ := sat i o ho
      obtain rfl : e' = e := Option.some.inj (he'.symm.trans he)
      obtain ⟨a, b⟩ := hcon i r e' hr he'
      exact Rw.of a (G.kn r (List.mem_of_getElem? hr)) b
    · obtain ⟨r, e', hr, _, rfl⟩ := sat i o ho
      have := List.length_pos_iff.mpr (G.ne i r h1 h2 hr)
      unfold stopsOf
      rw [List.length_cons, List.length_map]
      omega
  · have pf : pairB ts s t [r0, r1, r2, r3, r4, r5, r6] = false := by
      rw [← Bool.not_eq_true]
      intro h
      refine G ?_
      have h : (!([r1, r2, r3, r4, r5].any fun r => decide (r.length = 0)) && ([r0, r1, r2, r3, r4, r5, r6].all fun r => r.all fun z => decide (z ∈ names ts)) && (([r0, r1, r2, r3, r4, r5, r6].zip (pairEnds ts s t r1 r2 r3)).all fun q => conB ts q.1 q.2.1 q.2.2) && apartB (([r0, r1, r2, r3, r4, r5, r6].zip (pairEnds ts s t r1 r2 r3)).map fun q => stopsOf ts q.1 q.2.1)) = true := h
      rw [Bool.and_eq_true, Bool.and_eq_true, Bool.and_eq_true] at h
      obtain ⟨⟨⟨a, b⟩, c⟩, _⟩ := h
      refine ⟨fun i r h1 h2 hr => ?_, fun r hr z hz => of_decide_eq_true (List.all_eq_true.mp (List.all_eq_true.mp b r hr) z hz), fun r hr => ?_⟩
      · rw [Bool.not_eq_true'] at a
        have := List.any_eq_false.mp a r (at5 i r h1 h2 hr)
        rw [decide_eq_true_eq] at this
        exact fun z => this (by rw [z]; rfl)
      · obtain ⟨i, hi⟩ := List.mem_iff_getElem?.mp hr
        have hl := (List.getElem?_eq_some_iff.mp hi).1
        obtain ⟨e, he⟩ : ∃ e, (pairEnds ts s t r1 r2 r3)[i]? = some e := ⟨_, List.getElem?_eq_getElem (by simpa [pairEnds] using hl)⟩
        have := conB_iff.mp (List.all_eq_true.mp c (r, e) (List.mem_of_getElem? (List.getElem?_zip_eq_some.mpr ⟨hi, he⟩)))
        by_cases hn : r = []
        · exact .inl hn
        · exact .inr (cont_first hn this.1).2
    have df : dueB ts s t [r0, r1, r2, r3, r4, r5, r6] = false := by
      rw [← Bool.not_eq_true]
      intro h
      refine G ?_
      have h : (okRows ([r0, r1, r2, r3, r4, r5, r6].map (placesL ts)) && (List.range 7).all (fun k => betB (rowK ([r0, r1, r2, r3, r4, r5, r6].map (placesL ts)) k) ((endsL ([r0, r1, r2, r3, r4, r5, r6].map (placesL ts)) s t).getD k ("", "")).1 ((endsL ([r0, r1, r2, r3, r4, r5, r6].map (placesL ts)) s t).getD k ("", "")).2) && onceB (innerL ([r0, r1, r2, r3, r4, r5, r6].map (placesL ts)))) = true := h
      rw [Bool.and_eq_true, Bool.and_eq_true] at h
      obtain ⟨⟨a, _⟩, _⟩ := h
      have ro : ∀ (i : Nat) (r : List Str), [r0, r1, r2, r3, r4, r5, r6][i]? = some r → rowOk i (placesL ts r) = true := fun i r hr => by
        have hl := (List.getElem?_eq_some_iff.mp hr).1
        have := List.all_eq_true.mp a i (List.mem_range.mpr hl)
        rw [List.getD_eq_getElem?_getD, List.getElem?_map, hr] at this
        exact this
      have pl : ∀ r ∈ [r0, r1, r2, r3, r4, r5, r6], r = [] ∨ (Kn ts r ∧ Cont ts (tailOf ts (firstN r)) r) := fun r hr => by
        obtain ⟨i, hi⟩ := List.mem_iff_getElem?.mp hr
        have := ro i r hi
        rw [places_of] at this
        by_cases hn : r = []
        · exact .inl hn
        · rw [if_neg hn] at this
          by_cases hc : Kn ts r ∧ Cont ts (tailOf ts (firstN r)) r
          · exact .inr hc
          · rw [if_neg hc] at this
            cases this
      refine ⟨fun i r h1 h2 hr hn => ?_, fun r hr => ?_, fun r hr => (pl r hr).imp id fun h => h.2⟩
      · have := ro i r hr
        rw [hn, places_of, if_pos rfl, rowOk_some, decide_eq_false (fun h => h rfl), decide_eq_false (show ¬ i = 0 by omega), decide_eq_false (show ¬ i = 6 by omega)] at this
        cases this
      · rcases pl r hr with h | h
        · rw [h]; exact kn_nil
        · exact h.1
    rw [pf, df]
theorem found_one {es ts : List Ent} (nd : (names es).Nodup) (p : ts.Perm es) (z : Str) : found ts z = found es z := by
  have nd' : (names ts).Nodup := (show (names ts).Perm (names es) from p.map fun e : Ent => e.1).nodup_iff.mpr nd
  by_cases h : z ∈ names es
  · obtain ⟨e, he, rfl⟩ := List.mem_map.mp h
    rw [found_mem nd he, found_mem nd' (p.mem_iff.mpr he)]
  · have h1 := found_some (es := es) (n := z)
    have h2 := found_some (es := ts) (n := z)
    rw [decide_eq_false h] at h1
    rw [decide_eq_false (fun hh => h ((show (names ts).Perm (names es) from p.map fun e : Ent => e.1).mem_iff.mp hh))] at h2
    rw [Option.isSome_eq_false_iff, Option.isNone_iff_eq_none] at h1 h2
    rw [h1, h2]
theorem plc_one {es ts : List Ent} (h : ∀ z, found ts z = found es z) : ∀ (ns acc : List Str), plc ts acc ns = plc es acc ns
  | [], _ => rfl
  | n :: r, acc => by
    unfold plc
    rw [h n]
    cases found es n with
    | none => rfl
    | some e =>
      show (if acc ≠ [] ∧ lastN acc ≠ e.1 then none else plc ts (putP acc e) r) = if acc ≠ [] ∧ lastN acc ≠ e.1 then none else plc es (putP acc e) r
      rw [plc_one h]
theorem due_one {es ts : List Ent} (h : ∀ z, found ts z = found es z) (s t : Str) (rows : List (List Str)) : dueB ts s t rows = dueB es s t rows := by
  have : rows.map (placesL ts) = rows.map (placesL es) := List.map_congr_left fun r _ => plc_one h r []
  unfold dueB
  rw [this]

/-! ### a pair is changed -/
def rListO (K : PySem.W.Frag) : List V → Hp → VK → Prop := fun xs H Q => ∃ p ys, xs = [V.ref p] ∧ (SqL K H p ys ∨ SqT K H p ys) ∧ ∀ l, H l = none → Q (.ref l) (upd H l (.lst ys))
def rTupO (K : PySem.W.Frag) : List V → Hp → VK → Prop := fun xs H Q => ∃ p ys, xs = [V.ref p] ∧ ((SqL K H p ys ∧ ∀ l, H l = none → Q (.ref l) (upd H l (.tup ys))) ∨ (SqT K H p ys ∧ Q (.ref p) H))
structure ChAt (G0 G : Hp) (R : Addr) (ls : List Addr) (rows : List (List Str)) : Prop where
  sm : Same G0 G
  gR : G R = some (.lst (ls.map V.ref))
  pr : Paired (RowS G) ls rows
  nR : G0 R = none
  nL : ∀ L ∈ ls, G0 L = none ∧ L ≠ R
  nd : ls.Nodup
theorem ChAt.on {G0 G G' : Hp} {R : Addr} {ls : List Addr} {rows : List (List Str)} (c : ChAt G0 G R ls rows) (s : Same G G') : ChAt G0 G' R ls rows where
  sm := c.sm.trans s
  gR := s _ _ c.gR
  pr := c.pr.mono fun _ _ h => s _ _ h
  nR := c.nR
  nL := c.nL
  nd := c.nd
theorem ChAt.at {G0 G : Hp} {R : Addr} {ls : List Addr} {rows : List (List Str)} (c : ChAt G0 G R ls rows) {i : Nat} (hi : i < rows.length) : ∃ L r, ls[i]? = some L ∧ rows[i]? = some r ∧ G L = some (.lst (r.map V.str)) := by
  obtain ⟨L, hL⟩ : ∃ L, ls[i]? = some L := ⟨_, List.getElem?_eq_getElem (by rw [c.pr.length]; exact hi)⟩
  obtain ⟨r, hr, e⟩ := pair_at c.pr hL
  exact ⟨L, r, hL, hr, e⟩
theorem nodup_set {α : Type} [DecidableEq α] {l : List α} {i : Nat} {a : α} (nd : l.Nodup) (h : a ∉ l) : (l.set i a).Nodup := by
  refine List.pairwise_iff_getElem.mpr fun j k hj hk hjk e => ?_
  rw [List.length_set] at hj hk
  rw [List.getElem_set, List.getElem_set] at e
  by_cases h1 : i = j
  · rw [if_pos h1, if_neg (by omega)] at e
    exact h (e ▸ List.getElem_mem _)
  · rw [if_neg h1] at e
    by_cases h2 : i = k
    · rw [if_pos h2] at e
      exact h (e ▸ List.getElem_mem _)
    · rw [if_neg h2] at e
      exact List.pairwise_iff_getElem.mp nd j k hj hk hjk e
theorem ChAt.setRow {G0 G : Hp} {R L : Addr} {ls : List Addr} {rows : List (List Str)} {i : Nat} {r : List Str} (c : ChAt G0 G R ls rows) (e : G L = some (.lst (r.map V.str))) (n0 : G0 L = none) (hR : L ≠ R) (hl : L ∉ ls) : ChAt G0 (upd G R (.lst ((ls.set i L).map V.ref))) R (ls.set i L) (rows.set i r) where
  sm := same_keep c.nR c.sm
  gR := upd_same
  pr := by
    have h1 : Paired (fun a b => RowS G a b ∧ a ≠ R) (ls.set i L) (rows.set i r) := by
      refine paired_set ⟨e, hR⟩ ?_
      have : ∀ {xs : List Addr} {ys : List (List Str)}, (∀ x ∈ xs, x ≠ R) → Paired (RowS G) xs ys → Paired (fun a b => RowS G a b ∧ a ≠ R) xs ys := by
        intro xs ys h p
        induction p with
        | nil => exact .nil
        | cons a _ ih => exact .cons ⟨a, h _ List.mem_cons_self⟩ (ih fun x hx => h x (List.mem_cons_of_mem _ hx))
      exact this (fun x hx => (c.nL x hx).2) c.pr
    exact h1.mono fun a b h => by
      show (upd G R _) a = _
      rw [upd_ne h.2]
      exact h.1
  nR := c.nR
  nL := fun x hx => by
    rcases List.mem_or_eq_of_mem_set hx with h | h
    · exact c.nL x h
    · rw [h]; exact ⟨n0, hR⟩
  nd := nodup_set c.nd hl
theorem paired_mut {H : Hp} {L : Addr} {o : HO} {r : List Str} (ho : o = .lst (r.map V.str)) : ∀ {ls : List Addr} {rows : List (List Str)} {i : Nat}, ls.Nodup → ls[i]? = some L → Paired (RowS H) ls rows → Paired (RowS (upd H L o)) ls (rows.set i r)
  | a :: l, _ :: _, 0, nd, h, .cons e p => by
    obtain rfl : a = L := Option.some.inj h
    refine .cons (by show (upd H a o) a = _; rw [upd_same, ho]) ?_
    have : ∀ x ∈ l, x ≠ a := fun x hx z => (List.nodup_cons.mp nd).1 (z ▸ hx)
    clear nd h e
    induction p with
    | nil => exact .nil
    | cons e _ ih => exact .cons (by show (upd H a o) _ = _; rw [upd_ne (this _ List.mem_cons_self)]; exact e) (ih fun x hx => this x (List.mem_cons_of_mem _ hx))
  | a :: l, _ :: _, i + 1, nd, h, .cons e p => by
    have hm : L ∈ l := List.mem_of_getElem? (i := i) h
    refine .cons ?_ (paired_mut ho (List.nodup_cons.mp nd).2 h p)
    show (upd H L o) a = _
    rw [upd_ne (fun z => (List.nodup_cons.mp nd).1 (by rw [z]; exact hm))]
    exact e
theorem ChAt.mut {G0 G : Hp} {R L : Addr} {ls : List Addr} {rows : List (List Str)} {i : Nat} {r : List Str} (c : ChAt G0 G R ls rows) (hi : ls[i]? = some L) : ChAt G0 (upd G L (.lst (r.map V.str))) R ls (rows.set i r) where
  sm := same_keep (c.nL L (List.mem_of_getElem? hi)).1 c.sm
  gR := by rw [upd_ne (c.nL L (List.mem_of_getElem? hi)).2.symm]; exact c.gR
  pr := paired_mut rfl c.nd hi c.pr
  nR := c.nR
  nL := c.nL
  nd := c.nd
theorem ixNat {n j : Nat} (hj : j < n) : ixN n (j : Int) = some j := by
  unfold ixN
  rw [if_pos (by omega), if_pos (by omega)]
  rfl
theorem isEmpty_map {r : List Str} : (r.map V.str).isEmpty = r.isEmpty := by cases r <;> rfl
theorem set_refs (ls : List Addr) (i : Nat) (L : Addr) : (ls.map V.ref).set i (.ref L) = (ls.set i L).map V.ref := by rw [List.map_set]
theorem ChAt.putRow {G0 G H : Hp} {st R L : Addr} {n : Nat} {ls : List Addr} {rows : List (List Str)} (d : DSt G H st n) (c : ChAt G0 G R ls rows) (nL : H L = none) (i : Nat) (r : List Str) :
    DSt (upd (upd G L (.lst (r.map V.str))) R (.lst ((ls.set i L).map V.ref))) (upd (upd H L (.lst (r.map V.str))) R (.lst ((ls.set i L).map V.ref))) st n ∧ ChAt G0 (upd (upd G L (.lst (r.map V.str))) R (.lst ((ls.set i L).map V.ref))) R (ls.set i L) (rows.set i r) := by
  have gL := d.free nL
  have sL := same_upd (o := .lst (r.map V.str)) gL
  have c2 := c.on sL
  have RL : L ≠ R := (ne_of_none c.gR gL).symm
  have lL : L ∉ ls := fun h => by
    obtain ⟨j, hj⟩ := List.mem_iff_getElem?.mp h
    obtain ⟨r', _, e⟩ := pair_at c.pr hj
    have e : G L = some (.lst (r'.map V.str)) := e
    rw [gL] at e
    cases e
  exact ⟨(d.new (o := .lst (r.map V.str)) nL).put c2.gR, c2.setRow upd_same (c.sm.free gL) RL lL⟩
section
variable {P : Program} {w : World} {K : PySem.W.Frag} {mg : Str → Option Value} {base : Heap}
def spChg : Sp := fun vs H Q _ => ∃ (G : Hp) (st nl p : Addr) (m B : Nat) (ws : List Str) (rows : List (List Str)), vs = [.ref st, .ref nl, .ref p] ∧ DSt G H st m ∧ m < 800000 ∧ G nl = some (.lst (ws.map V.str)) ∧ ws.length ≤ 10 ∧ SevenS G p rows ∧ rows.length = 7 ∧ (∀ r ∈ rows, r.length ≤ B) ∧ B ≤ 80 ∧
  ∀ (p' : Addr) (G' H' : Hp) (rows' : List (List Str)), Same G G' → DSt G' H' st (m + 6) → SevenS G' p' rows' → rows'.length = 7 → (∀ r ∈ rows', r.length ≤ B + 7) → Q (.ref p') H'
set_option maxHeartbeats 1000000 in
theorem ok_chg (T : Txt K mg) : FnOk P w K mg base CX0 2 T.f_changed T.d_changed ["_law_state", "_law_names", "_law_seven"] spChg := by
  have G_take := ok_take (P := P) (w := w) (base := base) T
  refine T.F_changed.ok sc_changed (fun vs H Q E h => ?_) (fun cdv A outer s0 H vs Q E hr h => ?_)
  · obtain ⟨G, st, nl, p, m, B, ws, rows, rfl, _⟩ := h
    rfl
  · obtain ⟨G, st, nl, p, m, B, ws, rows, rfl, d, hm, enl, h10, ⟨qs, ep, pl⟩, h7, hB, hB80, k⟩ := h
    refine ⟨_, (pss_cons (ps_setLc (i := 3) (own := [("_law_row", 8)]) (g := gName 8) (tt := tYes) rfl sc_changed.nd rfl rfl (sw_true rfl rfl rfl (by decide +kernel)) (pi_tup (pv 2)) (blkOk_by (N := ["_law_state", "_law_names", "_law_seven", "_law_rows", "_law_plan", "_law_one", "_law_two", "_law_name", "_law_row"]) (sc := defScope s_changed) (by decide +kernel)) (fun _ _ _ _ _ => pg_name (i := 8) sc_changed.nd rfl (Or.inl rfl)) (fun _ _ _ _ _ => pts_nil) (fun _ _ _ _ _ => (pe_callTy (show CallR _ (.type "list") (rListO K) from call_list_of) (by rfl) T.n_list (by decide +kernel) (pa_cons (pv 8) pa_nil))))
    (pss_cons (ps_set (i := 4) sc_changed.nd rfl (Or.inl rfl) (pe_call G_take (hr.mono (by decide)) rfl T.m_take T.F_take.kp T.b_take .nil pass0 (pa_cons (pv 0) (pa_cons pe_int pa_nil))))
    (pss_cons (ps_set (i := 5) sc_changed.nd rfl (Or.inl rfl) (pe_call G_take (hr.mono (by decide)) rfl T.m_take T.F_take.kp T.b_take .nil pass0 (pa_cons (pv 0) (pa_cons pe_int pa_nil))))
    (pss_cons (ps_set (i := 6) sc_changed.nd rfl (Or.inl rfl) (pe_call G_take (hr.mono (by decide)) rfl T.m_take T.F_take.kp T.b_take .nil pass0 (pa_cons (pv 0) (pa_cons pe_int pa_nil))))
    (pss_cons (ps_set (i := 7) sc_changed.nd rfl (Or.inl rfl) (pe_ix ix_list (pe_op op_cat (pv 1) (pe_lst (pa_cons pe_str pa_nil))) (pe_call G_take (hr.mono (by decide)) rfl T.m_take T.F_take.kp T.b_take .nil pass0 (pa_cons (pv 0) (pa_cons (pe_op op_add (pe_callB call_len_seq (by rfl) T.n_len (by decide +kernel) (pa_cons (pv 1) pa_nil)) pe_int) pa_nil))) (fun _ _ => rfl)))
    (C8.pss_cut (ps_if (pt_cmpR op_eq (pv 4) pe_int (nomark _))
      (pss_cons (ps_asg (pe_callTy call_list_of (by rfl) T.n_list (by decide +kernel) (pa_cons (pe_ix ix_tup (pv 2) (pv 6) (fun _ _ => rfl)) pa_nil)) (pg_sub (pv 3) (pv 5) set_list))
    (pss_one (ps_asg (pe_callTy call_list_of (by rfl) T.n_list (by decide +kernel) (pa_cons (pe_ix ix_tup (pv 2) (pv 5) (fun _ _ => rfl)) pa_nil)) (pg_sub (pv 3) (pv 6) set_list))))
      pss_nil)
    (C8.pss_cut (ps_if (pt_cmpR op_eq (pv 4) pe_int (nomark _))
      (pss_one (ps_asg (pe_slice sl_list (pe_ix ix_list (pv 3) (pv 5) (fun _ _ => rfl)) (po_some pe_int) po_none) (pg_sub (pv 3) (pv 5) set_list)))
      pss_nil)
    (C8.pss_cut (ps_if (pt_cmpR op_eq (pv 4) pe_int (nomark _))
      (pss_one (ps_expr (pe_bm PySem.F.plainAttrs_list PySem.F.slot_list_insert PySem.F.type_list_insert mt_insert (pe_ix ix_list (pv 3) (pv 5) (fun _ _ => rfl)) (pa_cons (pe_call G_take (hr.mono (by decide)) rfl T.m_take T.F_take.kp T.b_take .nil pass0 (pa_cons (pv 0) (pa_cons (pe_op op_add (pe_callB call_len_seq (by rfl) T.n_len (by decide +kernel) (pa_cons (pe_ix ix_list (pv 3) (pv 5) (fun _ _ => rfl)) pa_nil)) pe_int) pa_nil))) (pa_cons (pv 7) pa_nil)))))
      pss_nil)
    (C8.pss_cut (ps_if (PW.pt (pw_and (pt_cmpR op_eq (pv 4) pe_int (nomark _)) (pw_and1 (pt_truth (pe_ix ix_list (pv 3) (pv 5) (fun _ _ => rfl)) (by intro _; rfl)))))
      (pss_one (ps_asg (pv 7) (pg_sub (pe_ix ix_list (pv 3) (pv 5) (fun _ _ => rfl)) (pe_call G_take (hr.mono (by decide)) rfl T.m_take T.F_take.kp T.b_take .nil pass0 (pa_cons (pv 0) (pa_cons (pe_callB call_len_seq (by rfl) T.n_len (by decide +kernel) (pa_cons (pe_ix ix_list (pv 3) (pv 5) (fun _ _ => rfl)) pa_nil)) pa_nil))) set_list)))
      pss_nil)
    (C8.pss_cut (ps_if (pt_cmpR op_eq (pv 4) pe_int (nomark _))
      (pss_one (ps_asg (pe_revL (pe_ix ix_list (pv 3) (pv 5) (fun _ _ => rfl))) (pg_sub (pv 3) (pv 5) set_list)))
      pss_nil)
    (C8.pss_cut (ps_if (PW.pt (pw_and (pt_cmpR op_eq (pv 4) pe_int (nomark _)) (pw_and1 (pt_truth (pe_ix ix_list (pv 3) (pv 5) (fun _ _ => rfl)) (by intro _; rfl)))))
      (pss_one (ps_asg (pe_op op_cat (pe_lst (pa_cons (pe_bm0 PySem.F.plainAttrs_list PySem.F.slot_list_pop PySem.F.type_list_pop mt_pop (pe_ix ix_list (pv 3) (pv 5) (fun _ _ => rfl))) pa_nil)) (pe_ix ix_list (pv 3) (pv 6) (fun _ _ => rfl))) (pg_sub (pv 3) (pv 6) set_list)))
      pss_nil)
    (C8.pss_cut (ps_if (pt_cmpR op_eq (pv 4) pe_int (nomark _))
      (pss_one (ps_asg (pe_op op_cat (pe_ix ix_list (pv 3) (pv 5) (fun _ _ => rfl)) (pe_slice sl_list (pe_ix ix_list (pv 3) (pv 5) (fun _ _ => rfl)) po_none (po_some pe_int))) (pg_sub (pv 3) (pv 5) set_list)))
      pss_nil)
    (pss_one (ps_ret (pe_callTy call_tuple_of (by rfl) T.n_tuple (by decide +kernel) (pa_cons (pe_lc (own := [("_law_row", 8)]) (g := gName 8) (tt := tYes) rfl sc_changed.nd (pi_list (pv 3)) (blkOk_by (N := ["_law_state", "_law_names", "_law_seven", "_law_rows", "_law_plan", "_law_one", "_law_two", "_law_name", "_law_row"]) (sc := defScope s_changed) (by decide +kernel)) (fun _ _ _ _ _ => pg_name (i := 8) sc_changed.nd rfl (Or.inl rfl)) (fun _ _ _ _ _ => pts_nil) (fun _ _ _ _ _ => (pe_callTy (show CallR _ (.type "tuple") (rTupO K) from call_tuple_of) (by rfl) T.n_tuple (by decide +kernel) (pa_cons (pv 8) pa_nil)))) pa_nil)))))))))))))))), ?_⟩
    have epH := d.same _ _ ep
    refine ⟨_, rfl, p, rfl, ⟨_, SqT.of epH⟩, fun R nR => ?_⟩
    refine lc_tup (K := K) (a := p) (xs := qs.map V.ref) (fun j H' => Same H H' ∧ ∃ ls : List Addr, H' R = some (.lst (ls.map V.ref)) ∧ Paired (RowS H') ls (rows.take j) ∧ (∀ L ∈ ls, H L = none ∧ L ≠ R) ∧ ls.Nodup) ⟨same_upd nR, [], upd_same, .nil, fun L h => absurd h List.not_mem_nil, List.nodup_nil⟩ (fun j H' _ h => SqT.of (h.1 _ _ epH)) ?_ ?_
    · rintro j x H1 hj ⟨s1, ls, eR, pr, hls, nd⟩
      rw [List.getElem?_map] at hj
      cases hq : qs[j]? with
      | none => rw [hq] at hj; cases hj
      | some q =>
        rw [hq] at hj
        obtain rfl := Option.some.inj hj
        obtain ⟨r, hr', er⟩ := pair_at pl hq
        have er1 := s1 _ _ (d.same _ _ (show G q = some (.tup (r.map V.str)) from er))
        have hjl := (List.getElem?_eq_some_iff.mp hr').1
        have hll := pr.length
        rw [List.length_take] at hll
        refine ⟨rfl, _, rfl, q, _, rfl, .inr (SqT.of er1), fun L nL => ?_⟩
        have s2 := same_upd (o := .lst (r.map V.str)) nL
        have LR : L ≠ R := (ne_of_none eR nL).symm
        refine ⟨_, s2 _ _ eR, small1000 (by rw [List.length_map]; omega), same_keep nR (s1.trans s2), ls ++ [L], by rw [upd_same, List.map_append]; rfl, ?_, fun y hy => ?_, ?_⟩
        · rw [take_more hr']
          have keep : ∀ a b, RowS (upd H1 L (.lst (r.map V.str))) a b → a ≠ R → RowS (upd (upd H1 L (.lst (r.map V.str))) R (.lst (ls.map V.ref ++ [.ref L]))) a b := fun a b h hne => by
            show (upd _ R _) a = _
            rw [upd_ne hne]
            exact h
          refine paired_snoc (keep _ _ upd_same LR) ?_
          clear hjl hll
          generalize rows.take j = rs at pr
          have : ∀ {xs : List Addr} {ys : List (List Str)}, (∀ x ∈ xs, x ≠ R) → Paired (RowS H1) xs ys → Paired (RowS (upd (upd H1 L (.lst (r.map V.str))) R (.lst (ls.map V.ref ++ [.ref L])))) xs ys := by
            intro xs ys h p
            induction p with
            | nil => exact .nil
            | cons a _ ih => exact .cons (keep _ _ (s2 _ _ a) (h _ List.mem_cons_self)) (ih fun x hx => h x (List.mem_cons_of_mem _ hx))
          exact this (fun x hx => (hls x hx).2) pr
        · rcases List.mem_append.mp hy with h | h
          · exact hls y h
          · rw [List.mem_singleton.mp h]; exact ⟨s1.free nL, LR⟩
        · refine List.nodup_append.mpr ⟨nd, by simp, fun a ha b hb e => ?_⟩
          rw [List.mem_singleton.mp hb] at e
          obtain ⟨i, hi⟩ := List.mem_iff_getElem?.mp ha
          obtain ⟨r', _, er'⟩ := pair_at pr hi
          have er' : H1 a = some (.lst (r'.map V.str)) := er'
          rw [e, nL] at er'
          cases er'
    rintro H1 ⟨s1, ls, eR, pr, hls, nd⟩
    rw [List.length_map, pl.length, List.take_length] at pr
    obtain ⟨G1, sG, d1, al, _⟩ := d.all s1
    have c1 : ChAt G G1 R ls rows := by
      refine ⟨sG, al _ _ nR eR, ?_, d.free nR, fun L hL => ⟨d.free (hls L hL).1, (hls L hL).2⟩, nd⟩
      have : ∀ {xs : List Addr} {ys : List (List Str)}, (∀ x ∈ xs, H x = none ∧ x ≠ R) → Paired (RowS H1) xs ys → Paired (RowS G1) xs ys := by
        intro xs ys h p
        induction p with
        | nil => exact .nil
        | cons a _ ih => exact .cons (al _ _ (h _ List.mem_cons_self).1 a) (ih fun x hx => h x (List.mem_cons_of_mem _ hx))
      exact this hls pr
    clear s1 eR pr hls nd al epH nR
    refine ⟨_, rfl, G1, st, m, 7, rfl, d1, by omega, by decide, by decide, fun pn H2 p0 p1 d2 => ?_⟩
    refine ⟨_, rfl, G1, st, m + 1, 7, rfl, d2, by omega, by decide, by decide, fun o1 H3 o0 o7 d3 => ?_⟩
    refine ⟨_, rfl, G1, st, m + 2, 7, rfl, d3, by omega, by decide, by decide, fun o2 H4 t0 t7 d4 => ?_⟩
    obtain ⟨a1, rfl⟩ := Int.eq_ofNat_of_zero_le o0
    obtain ⟨a2, rfl⟩ := Int.eq_ofNat_of_zero_le t0
    clear d d1 d2 d3
    -- the name
    have enl4 := d4.same _ _ (c1.sm _ _ enl)
    refine ⟨_, rfl, by show 1 ≤ sizeLine; decide, fun Z nZ => ?_⟩
    have d5 := d4.new (o := .lst [V.str "zz9"]) nZ
    have s5 := same_upd (o := .lst [V.str "zz9"]) (d4.free nZ)
    have eZ : (upd H4 Z (.lst [V.str "zz9"])) Z = some (.lst [V.str "zz9"]) := upd_same
    have enl5 := same_upd (o := .lst [V.str "zz9"]) nZ _ _ enl4
    generalize upd H4 Z (.lst [V.str "zz9"]) = H5 at d5 eZ enl5 ⊢
    generalize upd G1 Z (.lst [V.str "zz9"]) = G2 at d5 s5
    refine ⟨nl, Z, _, _, rfl, rfl, enl5, eZ, Nat.le_of_lt (small1000 (by rw [List.length_map]; simp only [List.length_cons, List.length_nil]; omega)), fun C nC => ?_⟩
    have d6 := d5.new (o := .lst (ws.map V.str ++ [V.str "zz9"])) nC
    have s6 := s5.trans (same_upd (o := .lst (ws.map V.str ++ [V.str "zz9"])) (d5.free nC))
    have eC : (upd G2 C (.lst (ws.map V.str ++ [V.str "zz9"]))) C = some (.lst ((ws ++ [("zz9" : Str)]).map V.str)) := by rw [upd_same, List.map_append]; rfl
    have enl6 := same_upd (o := .lst (ws.map V.str ++ [V.str "zz9"])) nC _ _ enl5
    generalize upd H5 C (.lst (ws.map V.str ++ [V.str "zz9"])) = H6 at d6 enl6 ⊢
    generalize upd G2 C (.lst (ws.map V.str ++ [V.str "zz9"])) = G3 at d6 s6 eC
    refine ⟨_, rfl, _, rfl, nl, _, rfl, .inl (SqL.of enl6), ?_⟩
    rw [List.length_map]
    refine ⟨_, _, rfl, rfl, G3, st, m + 3, _, rfl, d6, by omega, by omega, Int.lt_of_le_of_lt (b := 100) (by omega) (by decide), fun r7 H7 r0 r7l d7 => ?_⟩
    obtain ⟨rn, rfl⟩ := Int.eq_ofNat_of_zero_le r0
    obtain ⟨w, hw⟩ : ∃ w, (ws ++ [("zz9" : Str)])[rn]? = some w := ⟨_, List.getElem?_eq_getElem (by rw [List.length_append, List.length_singleton]; omega)⟩
    refine ⟨C, _, (rn : Int), .str w, rfl, rfl, SqL.of (d7.same _ _ eC), atI_nat (by rw [List.getElem?_map, hw]; rfl), ?_⟩
    have c7 := c1.on s6
    clear d4 d5 d6 s5 s6 eZ enl4 enl5 enl6 eC nZ nC c1 r7l r0 hw sG
    have qat : ∀ {G' : Hp} {ls : List Addr} {rows' : List (List Str)}, ChAt G G' R ls rows' → ∀ a : Nat, a < 7 → ∃ (q : Addr) (r : List Str), qs[a]? = some q ∧ G' q = some (.tup (r.map V.str)) ∧ r.length ≤ B := fun {G'} {ls} {rows'} c a ha => by
      obtain ⟨q, hq⟩ : ∃ q, qs[a]? = some q := ⟨_, List.getElem?_eq_getElem (by rw [pl.length]; omega)⟩
      obtain ⟨r, hr, er⟩ := pair_at pl hq
      exact ⟨q, r, hq, c.sm _ _ er, hB r (List.mem_of_getElem? hr)⟩
    have bset : ∀ {rows' : List (List Str)} {b b' i : Nat} {r : List Str}, (∀ r ∈ rows', r.length ≤ b) → b ≤ b' → r.length ≤ b' → ∀ r' ∈ rows'.set i r, r'.length ≤ b' := fun {rows'} {b} {b'} {i} {r} h1 h2 h3 r' hr' => by
      rcases List.mem_or_eq_of_mem_set hr' with h | h
      · exact Nat.le_trans (h1 r' h) h2
      · rw [h]; exact h3
    have pdec : ∀ j : Int, decide (V.int pn = V.int j) = decide (pn = j) := fun j => decide_eq_decide.mpr ⟨fun h => V.int.inj h, fun h => by rw [h]⟩
    have h7' := h7
    refine ⟨fun σ H' => ∃ (G' : Hp) (ls : List Addr) (rows' : List (List Str)), σ = [some (.ref st), some (.ref nl), some (.ref p), some (.ref R), some (.int pn), some (.int (a1 : Int)), some (.int (a2 : Int)), some (.str w), none] ∧ DSt G' H' st (m + 4) ∧ ChAt G G' R ls rows' ∧ rows'.length = 7 ∧ ∀ r ∈ rows', r.length ≤ B + 1, ?_, ?_⟩
    · refine ⟨_, rfl, rfl, _, rfl, ?_⟩
      rw [pdec]
      by_cases hp : pn = 0
      · rw [decide_eq_true hp]
        refine iteT ?_
        obtain ⟨q2, r2, hq2, eq2, b2⟩ := qat c7 a2 (by omega)
        have hq2v : (qs.map V.ref)[a2]? = some (.ref q2) := by rw [List.getElem?_map, hq2]; rfl
        have hq2v := hq2v
        refine ⟨_, rfl, _, rfl, p, _, (a2 : Int), .ref q2, rfl, rfl, SqT.of (d7.same _ _ (c7.sm _ _ ep)), atI_nat hq2v, q2, _, rfl, .inr (SqT.of (d7.same _ _ eq2)), fun L nL => ?_⟩
        obtain ⟨d8, c8⟩ := c7.putRow d7 nL a1 r2
        refine ⟨_, rfl, _, rfl, R, _, (a1 : Int), a1, rfl, rfl, same_upd nL _ _ (d7.same _ _ c7.gR), ixNat (by rw [List.length_map, c7.pr.length]; omega), ?_⟩
        rw [set_refs]
        generalize upd (upd H7 L (.lst (r2.map V.str))) R (.lst ((ls.set a1 L).map V.ref)) = H8 at d8 ⊢
        generalize upd (upd G3 L (.lst (r2.map V.str))) R (.lst ((ls.set a1 L).map V.ref)) = G4 at d8 c8
        obtain ⟨q1, r1, hq1, eq1, b1⟩ := qat c8 a1 (by omega)
        have hq1v : (qs.map V.ref)[a1]? = some (.ref q1) := by rw [List.getElem?_map, hq1]; rfl
        refine ⟨_, rfl, _, rfl, p, _, (a1 : Int), .ref q1, rfl, rfl, SqT.of (d8.same _ _ (c8.sm _ _ ep)), atI_nat hq1v, q1, _, rfl, .inr (SqT.of (d8.same _ _ eq1)), fun L2 nL2 => ?_⟩
        obtain ⟨d9, c9⟩ := c8.putRow d8 nL2 a2 r1
        refine ⟨_, rfl, _, rfl, R, _, (a2 : Int), a2, rfl, rfl, same_upd nL2 _ _ (d8.same _ _ c8.gR), ixNat (by rw [List.length_map, c8.pr.length, List.length_set]; omega), ?_⟩
        rw [set_refs]
        exact ⟨_, _, _, rfl, d9, c9, by rw [List.length_set, List.length_set]; exact h7, bset (bset hB (Nat.le_refl _) b2) (by omega) (by omega)⟩
      · rw [decide_eq_false hp]
        exact iteF ⟨G3, ls, rows, rfl, d7, c7, h7, fun r hr => Nat.le_trans (hB r hr) (by omega)⟩
    rintro σ H8 ⟨G4, ls, rows', rfl, d8, c8, h78, hB8⟩
    refine ⟨fun σ H' => ∃ (G' : Hp) (ls : List Addr) (rows' : List (List Str)), σ = [some (.ref st), some (.ref nl), some (.ref p), some (.ref R), some (.int pn), some (.int (a1 : Int)), some (.int (a2 : Int)), some (.str w), none] ∧ DSt G' H' st (m + 4) ∧ ChAt G G' R ls rows' ∧ rows'.length = 7 ∧ ∀ r ∈ rows', r.length ≤ B + 2, ?_, ?_⟩
    · refine ⟨_, rfl, rfl, _, rfl, ?_⟩
      rw [pdec]
      obtain ⟨L, r, hL, hr, eL⟩ := c8.at (i := a1) (by omega)
      have bR := hB8 r (List.mem_of_getElem? hr)
      have eL8 := d8.same _ _ eL
      have stay : ∃ (G' : Hp) (ls : List Addr) (rows' : List (List Str)), ([some (.ref st), some (.ref nl), some (.ref p), some (.ref R), some (.int pn), some (.int (a1 : Int)), some (.int (a2 : Int)), some (.str w), none] : L2.St) = [some (.ref st), some (.ref nl), some (.ref p), some (.ref R), some (.int pn), some (.int (a1 : Int)), some (.int (a2 : Int)), some (.str w), none] ∧ DSt G' H8 st (m + 4) ∧ ChAt G G' R ls rows' ∧ rows'.length = 7 ∧ ∀ r ∈ rows', r.length ≤ B + 2 := ⟨G4, ls, rows', rfl, d8.mono (by omega), c8, h78, fun r hr => Nat.le_trans (hB8 r hr) (by omega)⟩
      by_cases hp : pn = 1
      · rw [decide_eq_true hp]
        refine iteT ?_
        refine ⟨_, rfl, _, rfl, R, _, (a1 : Int), .ref L, rfl, rfl, SqL.of (d8.same _ _ c8.gR), atI_nat (by rw [List.getElem?_map, hL]; rfl), _, rfl, L, _, rfl, SqL.of eL8, fun Q1 nQ => ?_⟩
        rw [show cutV (r.map V.str) (some 1) none = (r.drop 1).map V.str from by rw [show (1 : Int) = ((1 : Nat) : Int) from rfl, cutA_drop, List.map_drop]]
        obtain ⟨d9, c9⟩ := c8.putRow d8 nQ a1 (r.drop 1)
        refine ⟨_, rfl, _, rfl, R, _, (a1 : Int), a1, rfl, rfl, same_upd nQ _ _ (d8.same _ _ c8.gR), ixNat (by rw [List.length_map, c8.pr.length]; omega), ?_⟩
        rw [set_refs]
        exact ⟨_, _, _, rfl, d9, c9, by rw [List.length_set]; exact h78, bset hB8 (by omega) (by rw [List.length_drop]; omega)⟩
      · rw [decide_eq_false hp]
        exact iteF stay
    rintro σ H8 ⟨G4, ls, rows', rfl, d8, c8, h78, hB8⟩
    refine ⟨fun σ H' => ∃ (G' : Hp) (ls : List Addr) (rows' : List (List Str)), σ = [some (.ref st), some (.ref nl), some (.ref p), some (.ref R), some (.int pn), some (.int (a1 : Int)), some (.int (a2 : Int)), some (.str w), none] ∧ DSt G' H' st (m + 5) ∧ ChAt G G' R ls rows' ∧ rows'.length = 7 ∧ ∀ r ∈ rows', r.length ≤ B + 3, ?_, ?_⟩
    · refine ⟨_, rfl, rfl, _, rfl, ?_⟩
      rw [pdec]
      obtain ⟨L, r, hL, hr, eL⟩ := c8.at (i := a1) (by omega)
      have bR := hB8 r (List.mem_of_getElem? hr)
      have eL8 := d8.same _ _ eL
      have stay : ∃ (G' : Hp) (ls : List Addr) (rows' : List (List Str)), ([some (.ref st), some (.ref nl), some (.ref p), some (.ref R), some (.int pn), some (.int (a1 : Int)), some (.int (a2 : Int)), some (.str w), none] : L2.St) = [some (.ref st), some (.ref nl), some (.ref p), some (.ref R), some (.int pn), some (.int (a1 : Int)), some (.int (a2 : Int)), some (.str w), none] ∧ DSt G' H8 st (m + 5) ∧ ChAt G G' R ls rows' ∧ rows'.length = 7 ∧ ∀ r ∈ rows', r.length ≤ B + 3 := ⟨G4, ls, rows', rfl, d8.mono (by omega), c8, h78, fun r hr => Nat.le_trans (hB8 r hr) (by omega)⟩
      by_cases hp : pn = 2
      · rw [decide_eq_true hp]
        refine iteT ?_
        refine ⟨_, rfl, _, rfl, R, _, (a1 : Int), .ref L, rfl, rfl, SqL.of (d8.same _ _ c8.gR), atI_nat (by rw [List.getElem?_map, hL]; rfl), .inl ⟨rfl, _, SqL.of eL8⟩, ?_⟩
        refine ⟨_, rfl, _, rfl, _, rfl, R, _, (a1 : Int), .ref L, rfl, rfl, SqL.of (d8.same _ _ c8.gR), atI_nat (by rw [List.getElem?_map, hL]; rfl), L, _, rfl, .inl (SqL.of eL8), ?_⟩
        rw [List.length_map]
        refine ⟨_, _, rfl, rfl, G4, st, m + 4, _, rfl, d8, by omega, by omega, Int.lt_of_le_of_lt (b := 1000) (by omega) (by decide), fun r9 H9 r90 r91 d9 => ?_⟩
        obtain ⟨rn, rfl⟩ := Int.eq_ofNat_of_zero_le r90
        have eL9 := d9.same _ _ eL
        refine ⟨_, rfl, L, _, (rn : Int), _, rfl, rfl, eL9, small1000 (by rw [List.length_map]; omega), by omega, Int.lt_of_lt_of_le (b := 1000) (by omega) (by decide), ?_⟩
        rw [show (r.map V.str).take (rn : Int).toNat ++ [V.str w] ++ (r.map V.str).drop (rn : Int).toNat = (r.take rn ++ [w] ++ r.drop rn).map V.str from by rw [Int.toNat_natCast, List.map_append, List.map_append, List.map_take, List.map_drop]; rfl]
        exact ⟨_, _, _, rfl, d9.put eL, c8.mut hL, by rw [List.length_set]; exact h78, bset hB8 (by omega) (by simp only [List.length_append, List.length_take, List.length_drop, List.length_singleton]; omega)⟩
      · rw [decide_eq_false hp]
        exact iteF stay
    rintro σ H8 ⟨G4, ls, rows', rfl, d8, c8, h78, hB8⟩
    refine ⟨fun σ H' => ∃ (G' : Hp) (ls : List Addr) (rows' : List (List Str)), σ = [some (.ref st), some (.ref nl), some (.ref p), some (.ref R), some (.int pn), some (.int (a1 : Int)), some (.int (a2 : Int)), some (.str w), none] ∧ DSt G' H' st (m + 6) ∧ ChAt G G' R ls rows' ∧ rows'.length = 7 ∧ ∀ r ∈ rows', r.length ≤ B + 4, ?_, ?_⟩
    · refine ⟨_, rfl, rfl, _, rfl, ?_⟩
      rw [pdec]
      obtain ⟨L, r, hL, hr, eL⟩ := c8.at (i := a1) (by omega)
      have bR := hB8 r (List.mem_of_getElem? hr)
      have eL8 := d8.same _ _ eL
      have stay : ∃ (G' : Hp) (ls : List Addr) (rows' : List (List Str)), ([some (.ref st), some (.ref nl), some (.ref p), some (.ref R), some (.int pn), some (.int (a1 : Int)), some (.int (a2 : Int)), some (.str w), none] : L2.St) = [some (.ref st), some (.ref nl), some (.ref p), some (.ref R), some (.int pn), some (.int (a1 : Int)), some (.int (a2 : Int)), some (.str w), none] ∧ DSt G' H8 st (m + 6) ∧ ChAt G G' R ls rows' ∧ rows'.length = 7 ∧ ∀ r ∈ rows', r.length ≤ B + 4 := ⟨G4, ls, rows', rfl, d8.mono (by omega), c8, h78, fun r hr => Nat.le_trans (hB8 r hr) (by omega)⟩
      by_cases hp : pn = 3
      · rw [decide_eq_true hp]
        refine iteT ?_
        refine ⟨_, rfl, _, rfl, R, _, (a1 : Int), .ref L, rfl, rfl, SqL.of (d8.same _ _ c8.gR), atI_nat (by rw [List.getElem?_map, hL]; rfl), _, .inl ⟨_, SqL.of eL8, rfl⟩, ?_⟩
        rw [isEmpty_map]
        cases hrE : r.isEmpty with
        | true => exact iteF stay
        | false =>
          refine iteT ?_
          have hr0 : 0 < r.length := by cases r with | nil => cases hrE | cons a b => exact Nat.succ_pos _
          refine ⟨_, rfl, _, rfl, _, rfl, R, _, (a1 : Int), .ref L, rfl, rfl, SqL.of (d8.same _ _ c8.gR), atI_nat (by rw [List.getElem?_map, hL]; rfl), ?_⟩
          refine ⟨_, rfl, _, rfl, _, rfl, R, _, (a1 : Int), .ref L, rfl, rfl, SqL.of (d8.same _ _ c8.gR), atI_nat (by rw [List.getElem?_map, hL]; rfl), L, _, rfl, .inl (SqL.of eL8), ?_⟩
          rw [List.length_map]
          refine ⟨G4, st, m + 5, _, rfl, d8, by omega, by omega, Int.lt_of_le_of_lt (b := 1000) (by omega) (by decide), fun r9 H9 r90 r91 d9 => ?_⟩
          obtain ⟨rn, rfl⟩ := Int.eq_ofNat_of_zero_le r90
          refine ⟨L, _, (rn : Int), rn, rfl, rfl, d9.same _ _ eL, ixNat (by rw [List.length_map]; omega), ?_⟩
          rw [show (r.map V.str).set rn (.str w) = (r.set rn w).map V.str from by rw [List.map_set]]
          exact ⟨_, _, _, rfl, d9.put eL, c8.mut hL, by rw [List.length_set]; exact h78, bset hB8 (by omega) (by rw [List.length_set]; omega)⟩
      · rw [decide_eq_false hp]
        exact iteF (iteF stay)
    rintro σ H8 ⟨G4, ls, rows', rfl, d8, c8, h78, hB8⟩
    refine ⟨fun σ H' => ∃ (G' : Hp) (ls : List Addr) (rows' : List (List Str)), σ = [some (.ref st), some (.ref nl), some (.ref p), some (.ref R), some (.int pn), some (.int (a1 : Int)), some (.int (a2 : Int)), some (.str w), none] ∧ DSt G' H' st (m + 6) ∧ ChAt G G' R ls rows' ∧ rows'.length = 7 ∧ ∀ r ∈ rows', r.length ≤ B + 5, ?_, ?_⟩
    · refine ⟨_, rfl, rfl, _, rfl, ?_⟩
      rw [pdec]
      obtain ⟨L, r, hL, hr, eL⟩ := c8.at (i := a1) (by omega)
      have bR := hB8 r (List.mem_of_getElem? hr)
      have eL8 := d8.same _ _ eL
      have stay : ∃ (G' : Hp) (ls : List Addr) (rows' : List (List Str)), ([some (.ref st), some (.ref nl), some (.ref p), some (.ref R), some (.int pn), some (.int (a1 : Int)), some (.int (a2 : Int)), some (.str w), none] : L2.St) = [some (.ref st), some (.ref nl), some (.ref p), some (.ref R), some (.int pn), some (.int (a1 : Int)), some (.int (a2 : Int)), some (.str w), none] ∧ DSt G' H8 st (m + 6) ∧ ChAt G G' R ls rows' ∧ rows'.length = 7 ∧ ∀ r ∈ rows', r.length ≤ B + 5 := ⟨G4, ls, rows', rfl, d8.mono (by omega), c8, h78, fun r hr => Nat.le_trans (hB8 r hr) (by omega)⟩
      by_cases hp : pn = 4
      · rw [decide_eq_true hp]
        refine iteT ?_
        refine ⟨_, rfl, _, rfl, R, _, (a1 : Int), .ref L, rfl, rfl, SqL.of (d8.same _ _ c8.gR), atI_nat (by rw [List.getElem?_map, hL]; rfl), L, _, rfl, SqL.of eL8, fun Q1 nQ => ?_⟩
        rw [← List.map_reverse]
        obtain ⟨d9, c9⟩ := c8.putRow d8 nQ a1 r.reverse
        refine ⟨_, rfl, _, rfl, R, _, (a1 : Int), a1, rfl, rfl, same_upd nQ _ _ (d8.same _ _ c8.gR), ixNat (by rw [List.length_map, c8.pr.length]; omega), ?_⟩
        rw [set_refs]
        exact ⟨_, _, _, rfl, d9, c9, by rw [List.length_set]; exact h78, bset hB8 (by omega) (by rw [List.length_reverse]; omega)⟩
      · rw [decide_eq_false hp]
        exact iteF stay
    rintro σ H8 ⟨G4, ls, rows', rfl, d8, c8, h78, hB8⟩
    refine ⟨fun σ H' => ∃ (G' : Hp) (ls : List Addr) (rows' : List (List Str)), σ = [some (.ref st), some (.ref nl), some (.ref p), some (.ref R), some (.int pn), some (.int (a1 : Int)), some (.int (a2 : Int)), some (.str w), none] ∧ DSt G' H' st (m + 6) ∧ ChAt G G' R ls rows' ∧ rows'.length = 7 ∧ ∀ r ∈ rows', r.length ≤ B + 6, ?_, ?_⟩
    · refine ⟨_, rfl, rfl, _, rfl, ?_⟩
      rw [pdec]
      obtain ⟨L, r, hL, hr, eL⟩ := c8.at (i := a1) (by omega)
      have bR := hB8 r (List.mem_of_getElem? hr)
      have eL8 := d8.same _ _ eL
      have stay : ∃ (G' : Hp) (ls : List Addr) (rows' : List (List Str)), ([some (.ref st), some (.ref nl), some (.ref p), some (.ref R), some (.int pn), some (.int (a1 : Int)), some (.int (a2 : Int)), some (.str w), none] : L2.St) = [some (.ref st), some (.ref nl), some (.ref p), some (.ref R), some (.int pn), some (.int (a1 : Int)), some (.int (a2 : Int)), some (.str w), none] ∧ DSt G' H8 st (m + 6) ∧ ChAt G G' R ls rows' ∧ rows'.length = 7 ∧ ∀ r ∈ rows', r.length ≤ B + 6 := ⟨G4, ls, rows', rfl, d8.mono (by omega), c8, h78, fun r hr => Nat.le_trans (hB8 r hr) (by omega)⟩
      by_cases hp : pn = 5
      · rw [decide_eq_true hp]
        refine iteT ?_
        refine ⟨_, rfl, _, rfl, R, _, (a1 : Int), .ref L, rfl, rfl, SqL.of (d8.same _ _ c8.gR), atI_nat (by rw [List.getElem?_map, hL]; rfl), _, .inl ⟨_, SqL.of eL8, rfl⟩, ?_⟩
        rw [isEmpty_map]
        cases hrE : r.isEmpty with
        | true => exact iteF stay
        | false =>
          refine iteT ?_
          have hr0 : 0 < r.length := by cases r with | nil => cases hrE | cons a b => exact Nat.succ_pos _
          have hz := at_last (r := r) (by intro h; rw [h] at hr0; exact absurd hr0 (Nat.lt_irrefl 0))
          refine ⟨_, rfl, _, rfl, R, _, (a1 : Int), .ref L, rfl, rfl, SqL.of (d8.same _ _ c8.gR), atI_nat (by rw [List.getElem?_map, hL]; rfl), .inl ⟨rfl, _, SqL.of eL8⟩, L, _, .str (lastN r), rfl, rfl, eL8, by rw [List.length_map, List.getElem?_map, hz]; rfl, ?_⟩
          rw [show (r.map V.str).dropLast = r.dropLast.map V.str from List.map_dropLast.symm]
          have d9 := d8.put (o := .lst (r.dropLast.map V.str)) eL
          have c9 := c8.mut (r := r.dropLast) hL
          generalize upd H8 L (.lst (r.dropLast.map V.str)) = H9 at d9 ⊢
          generalize upd G4 L (.lst (r.dropLast.map V.str)) = G5 at d9 c9
          refine ⟨by show 1 ≤ sizeLine; decide, fun Z nZ => ?_⟩
          have d10 := d9.new (o := .lst [V.str (lastN r)]) nZ
          have c10 := c9.on (same_upd (o := .lst [V.str (lastN r)]) (d9.free nZ))
          have eZ : (upd H9 Z (.lst [V.str (lastN r)])) Z = some (.lst ([lastN r].map V.str)) := upd_same
          generalize upd H9 Z (.lst [V.str (lastN r)]) = H10 at d10 eZ ⊢
          generalize upd G5 Z (.lst [V.str (lastN r)]) = G6 at d10 c10
          have hb10 := bset (i := a1) hB8 (Nat.le_refl _) (show r.dropLast.length ≤ B + 5 by rw [List.length_dropLast]; omega)
          obtain ⟨L2, r2, hL2, hr2, eL2⟩ := c10.at (i := a2) (by rw [List.length_set]; omega)
          have b2 := hb10 r2 (List.mem_of_getElem? hr2)
          refine ⟨_, rfl, _, rfl, R, _, (a2 : Int), .ref L2, rfl, rfl, SqL.of (d10.same _ _ c10.gR), atI_nat (by rw [List.getElem?_map, hL2]; rfl), ?_⟩
          refine ⟨Z, L2, _, _, rfl, rfl, eZ, d10.same _ _ eL2, Nat.le_of_lt (small1000 (by rw [List.length_map, List.length_map, List.length_singleton]; omega)), fun Q1 nQ => ?_⟩
          rw [← List.map_append]
          obtain ⟨d11, c11⟩ := c10.putRow d10 nQ a2 ([lastN r] ++ r2)
          refine ⟨_, rfl, _, rfl, R, _, (a2 : Int), a2, rfl, rfl, same_upd nQ _ _ (d10.same _ _ c10.gR), ixNat (by rw [List.length_map, c10.pr.length, List.length_set]; omega), ?_⟩
          rw [set_refs]
          exact ⟨_, _, _, rfl, d11, c11, by rw [List.length_set, List.length_set]; exact h78, bset hb10 (by omega) (by rw [List.length_append, List.length_singleton]; omega)⟩
      · rw [decide_eq_false hp]
        exact iteF (iteF stay)
    rintro σ H8 ⟨G4, ls, rows', rfl, d8, c8, h78, hB8⟩
    refine ⟨fun σ H' => ∃ (G' : Hp) (ls : List Addr) (rows' : List (List Str)), σ = [some (.ref st), some (.ref nl), some (.ref p), some (.ref R), some (.int pn), some (.int (a1 : Int)), some (.int (a2 : Int)), some (.str w), none] ∧ DSt G' H' st (m + 6) ∧ ChAt G G' R ls rows' ∧ rows'.length = 7 ∧ ∀ r ∈ rows', r.length ≤ B + 7, ?_, ?_⟩
    · refine ⟨_, rfl, rfl, _, rfl, ?_⟩
      rw [pdec]
      obtain ⟨L, r, hL, hr, eL⟩ := c8.at (i := a1) (by omega)
      have bR := hB8 r (List.mem_of_getElem? hr)
      have eL8 := d8.same _ _ eL
      have stay : ∃ (G' : Hp) (ls : List Addr) (rows' : List (List Str)), ([some (.ref st), some (.ref nl), some (.ref p), some (.ref R), some (.int pn), some (.int (a1 : Int)), some (.int (a2 : Int)), some (.str w), none] : L2.St) = [some (.ref st), some (.ref nl), some (.ref p), some (.ref R), some (.int pn), some (.int (a1 : Int)), some (.int (a2 : Int)), some (.str w), none] ∧ DSt G' H8 st (m + 6) ∧ ChAt G G' R ls rows' ∧ rows'.length = 7 ∧ ∀ r ∈ rows', r.length ≤ B + 7 := ⟨G4, ls, rows', rfl, d8.mono (by omega), c8, h78, fun r hr => Nat.le_trans (hB8 r hr) (by omega)⟩
      by_cases hp : pn = 6
      · rw [decide_eq_true hp]
        refine iteT ?_
        refine ⟨_, rfl, _, rfl, R, _, (a1 : Int), .ref L, rfl, rfl, SqL.of (d8.same _ _ c8.gR), atI_nat (by rw [List.getElem?_map, hL]; rfl), ?_⟩
        refine ⟨_, rfl, _, rfl, R, _, (a1 : Int), .ref L, rfl, rfl, SqL.of (d8.same _ _ c8.gR), atI_nat (by rw [List.getElem?_map, hL]; rfl), _, rfl, L, _, rfl, SqL.of eL8, fun Z nZ => ?_⟩
        rw [show cutV (r.map V.str) none (some 1) = (r.take 1).map V.str from by rw [show (1 : Int) = ((1 : Nat) : Int) from rfl, cutA_take, List.map_take]]
        have d9 := d8.new (o := .lst ((r.take 1).map V.str)) nZ
        have c9 := c8.on (same_upd (o := .lst ((r.take 1).map V.str)) (d8.free nZ))
        have eZ : (upd H8 Z (.lst ((r.take 1).map V.str))) Z = some (.lst ((r.take 1).map V.str)) := upd_same
        have eL9 := same_upd (o := .lst ((r.take 1).map V.str)) nZ _ _ eL8
        generalize upd H8 Z (.lst ((r.take 1).map V.str)) = H9 at d9 eZ eL9 ⊢
        generalize upd G4 Z (.lst ((r.take 1).map V.str)) = G5 at d9 c9
        refine ⟨L, Z, _, _, rfl, rfl, eL9, eZ, Nat.le_of_lt (small1000 (by rw [List.length_map, List.length_map, List.length_take]; omega)), fun Q1 nQ => ?_⟩
        rw [← List.map_append]
        obtain ⟨d10, c10⟩ := c9.putRow d9 nQ a1 (r ++ r.take 1)
        refine ⟨_, rfl, _, rfl, R, _, (a1 : Int), a1, rfl, rfl, same_upd nQ _ _ (d9.same _ _ c9.gR), ixNat (by rw [List.length_map, c9.pr.length]; omega), ?_⟩
        rw [set_refs]
        exact ⟨_, _, _, rfl, d10, c10, by rw [List.length_set]; exact h78, bset hB8 (by omega) (by rw [List.length_append, List.length_take]; omega)⟩
      · rw [decide_eq_false hp]
        exact iteF stay
    rintro σ H8 ⟨G4, ls, rows', rfl, d8, c8, h78, hB8⟩
    have eR := d8.same _ _ c8.gR
    refine ⟨_, rfl, R, rfl, ⟨_, SqL.of eR⟩, fun D nD => ?_⟩
    have hpr := c8.pr
    refine lc_list (K := K) (a := R) (xs := ls.map V.ref) (fun j H' => Same H8 H' ∧ ∃ ts : List Addr, H' D = some (.lst (ts.map V.ref)) ∧ Paired (fun a b => NamesT H' a b ∧ H8 a = none) ts (rows'.take j)) ⟨same_upd nD, [], upd_same, .nil⟩ (fun j H' _ h => SqL.of (h.1 _ _ eR)) ?_ ?_
    · rintro j x H1 hj ⟨s1, ts, eD, pt⟩
      rw [List.getElem?_map] at hj
      cases hq : ls[j]? with
      | none => rw [hq] at hj; cases hj
      | some L =>
        rw [hq] at hj
        obtain rfl := Option.some.inj hj
        obtain ⟨r, hr', er⟩ := pair_at hpr hq
        have er1 := s1 _ _ (d8.same _ _ (show G4 L = some (.lst (r.map V.str)) from er))
        have hjl := (List.getElem?_eq_some_iff.mp hr').1
        have htl := pt.length
        rw [List.length_take] at htl
        refine ⟨rfl, _, rfl, L, _, rfl, .inl ⟨SqL.of er1, fun Tn nT => ?_⟩⟩
        have s2 := same_upd (o := .tup (r.map V.str)) nT
        have TD : Tn ≠ D := (ne_of_none eD nT).symm
        refine ⟨_, s2 _ _ eD, small1000 (by rw [List.length_map]; omega), same_keep nD (s1.trans s2), ts ++ [Tn], by rw [upd_same, List.map_append]; rfl, ?_⟩
        rw [take_more hr']
        have keep : ∀ a b, NamesT (upd H1 Tn (.tup (r.map V.str))) a b → NamesT (upd (upd H1 Tn (.tup (r.map V.str))) D (.lst (ts.map V.ref ++ [.ref Tn]))) a b := fun a b h => by
          show (upd _ D _) a = _
          rw [upd_ne (fun z => by
            have h : (upd H1 Tn (.tup (r.map V.str))) a = some (.tup (b.map V.str)) := h
            rw [z, s2 _ _ eD] at h
            cases h)]
          exact h
        exact paired_snoc ⟨keep _ _ upd_same, s1.free nT⟩ (pt.mono fun a b h => ⟨keep _ _ (s2 _ _ h.1), h.2⟩)
    rintro H9 ⟨s9, ts, eD, pt⟩
    rw [List.length_map, hpr.length, List.take_length] at pt
    refine ⟨D, _, rfl, .inl ⟨SqL.of eD, fun Pn nP => ?_⟩⟩
    have s10 := same_upd (o := .tup (ts.map V.ref)) nP
    obtain ⟨G10, sG10, d10, al, _⟩ := d8.all (s9.trans s10)
    exact k Pn G10 _ rows' (c8.sm.trans sG10) d10 ⟨ts, al _ _ (s9.free nP) upd_same, pt.mono fun a b h => al _ _ h.2 (s10 _ _ h.1)⟩ h78 hB8
end

/-! ### planted links -/
def baseV : List Nat := [0, 1, 1, 1, 1, 1, 0]
def szOf (v : List Nat) : List Nat := List.zipWith (· + ·) baseV v
def vecs : Nat → Nat → List (List Nat)
  | 0, _ => [[]]
  | n + 1, s => (List.range (s + 1)).flatMap fun a => (vecs n (s - a)).map (a :: ·)
theorem vecs_all : ∀ {n s : Nat} {v : List Nat}, v.length = n → v.sum ≤ s → v ∈ vecs n s
  | 0, s, v, h, _ => by
    rw [List.length_eq_zero_iff.mp h]
    exact List.mem_singleton.mpr rfl
  | n + 1, s, [], h, _ => by simp at h
  | n + 1, s, a :: v, h, h2 => by
    rw [List.sum_cons] at h2
    exact List.mem_flatMap.mpr ⟨a, List.mem_range.mpr (by omega), List.mem_map.mpr ⟨v, vecs_all (by simpa using h) (by omega), rfl⟩⟩
def rowGo (eh : Nat) : Nat → Nat → Nat → List (Nat × Nat) → List Nat → List (Nat × Nat) × List Nat × Nat
  | 0, _, cnt, links, row => (links, row, cnt)
  | 1, place, cnt, links, row => (links ++ [(place, eh)], row ++ [links.length], cnt)
  | n + 2, place, cnt, links, row => rowGo eh (n + 1) cnt (cnt + 1) (links ++ [(place, cnt)]) (row ++ [links.length])
def rowsGo : List (Nat × (Nat × Nat)) → Nat → List (Nat × Nat) → List (List Nat) → List (Nat × Nat) × List (List Nat) × Nat
  | [], cnt, links, rows => (links, rows, cnt)
  | (s, e) :: r, cnt, links, rows => let q := rowGo e.2 s e.1 cnt links []; rowsGo r q.2.2 q.1 (rows ++ [q.2.1])
def endsN (sz : List Nat) : List (Nat × Nat) := [(4, 0), (0, 1), (1, 3), (0, 2), (2, 3), (1, 2), (3, if 0 < sz.getD 6 0 then (if 0 < sz.getD 0 0 then 5 else 4) else 5)]
def startN (sz : List Nat) : Nat := if 0 < sz.getD 0 0 then 4 else 0
def cnt1 (sz : List Nat) : Nat := if 0 < sz.getD 0 0 then 5 else 4
def endN (sz : List Nat) : Nat := if 0 < sz.getD 6 0 then cnt1 sz else 3
def cnt2 (sz : List Nat) : Nat := if 0 < sz.getD 6 0 then cnt1 sz + 1 else cnt1 sz
def plant (sz : List Nat) : List (Nat × Nat) × List (List Nat) × Nat := rowsGo (sz.zip (endsN sz)) (cnt2 sz) [] []
/-! what is right of such links -/
def rkStep (ps : List (Nat × Nat)) (rk : List Nat) : List Nat := ps.foldl (fun rk p => rk.set p.2 (max (rk.getD p.2 0) (rk.getD p.1 0 + 1))) rk
def rkOf (ps : List (Nat × Nat)) : Nat → List Nat
  | 0 => [0, 0, 0, 0, 0, 0, 0, 0]
  | n + 1 => rkStep ps (rkOf ps n)
def fwd (ps : List (Nat × Nat)) (F : List Nat) : List Nat := ps.foldl (fun F p => if p.1 ∈ F then (if p.2 ∈ F then F else p.2 :: F) else F) F
def fwdN (ps : List (Nat × Nat)) (s : Nat) : Nat → List Nat
  | 0 => [s]
  | n + 1 => fwd ps (fwdN ps s n)
def bwd (ps : List (Nat × Nat)) (F : List Nat) : List Nat := ps.foldr (fun p F => if p.2 ∈ F then (if p.1 ∈ F then F else p.1 :: F) else F) F
def bwdN (ps : List (Nat × Nat)) (s : Nat) : Nat → List Nat
  | 0 => [s]
  | n + 1 => bwd ps (bwdN ps s n)
def fineB (ps : List (Nat × Nat)) (s t : Nat) : Bool :=
  let rk := rkOf ps 3; let F := fwdN ps s 2; let B := bwdN ps t 2
  decide (s < 8) && decide (t < 8) && !decide (s = t) && decide (1 ≤ ps.length) && decide (ps.length ≤ 9) && ps.all fun p => decide (p.1 < 8) && decide (p.2 < 8) && decide (rk.getD p.1 0 < rk.getD p.2 0) && decide (p.1 ∈ F) && decide (p.2 ∈ B)
def couples : List (Nat × Nat) := [(1, 3), (2, 4), (2, 5), (3, 5), (3, 2)]
def mergeN (ps : List (Nat × Nat)) (old new : Nat) : List (Nat × Nat) := ps.map fun p => (if p.1 = old then new else p.1, if p.2 = old then new else p.2)
def mergesB (ps : List (Nat × Nat)) (rows : List (List Nat)) (s t : Nat) : Bool := couples.all fun c =>
  (List.range ((rows.getD c.1 []).length - 1)).all fun i => (List.range ((rows.getD c.2 []).length - 1)).all fun j =>
    fineB (mergeN ps (ps.getD ((rows.getD c.1 []).getD i 0) (0, 0)).2 (ps.getD ((rows.getD c.2 []).getD j 0) (0, 0)).2) s t
def conN (ps : List (Nat × Nat)) (r : List Nat) (f g : Nat) : Bool :=
  decide (r.map (fun k => (ps.getD k (0, 0)).1) = (f :: r.map fun k => (ps.getD k (0, 0)).2).dropLast) && decide ((f :: r.map fun k => (ps.getD k (0, 0)).2).getLastD 0 = g)
def innerN (r : List Nat) : List Nat := (r.take (r.length - 1)).drop 1
def apartN (rows : List (List Nat)) : Bool := (List.range rows.length).all fun i => (innerN (rows.getD i [])).all fun p => (List.range rows.length).all fun j => decide (j = i) || !decide (p ∈ rows.getD j [])
def pairN (ps : List (Nat × Nat)) (s t : Nat) (rows : List (List Nat)) : Bool :=
  let es := [(s, 0), (0, 1), (1, 3), (0, 2), (2, 3), (1, 2), (3, t)]
  decide (rows.length = 7) && (((rows.drop 1).take 5).all fun r => !decide (r.length = 0)) && (rows.all fun r => decide (r.length ≤ 5) && r.all fun k => decide (k < ps.length)) &&
  ((rows.zip es).all fun q => conN ps q.1 q.2.1 q.2.2) && apartN ((rows.zip es).map fun q => q.2.1 :: q.1.map fun k => (ps.getD k (0, 0)).2)
def allB (v : List Nat) : Bool :=
  let sz := szOf v; let q := plant sz
  fineB q.1 (startN sz) (endN sz) && mergesB q.1 q.2.1 (startN sz) (endN sz) && pairN q.1 (startN sz) (endN sz) q.2.1 && decide (q.2.2 ≤ 8)
theorem all_ok : (vecs 7 4).all allB = true := by decide +kernel

/-! ### such links make a network -/
structure Fine (ps : List (Nat × Nat)) (s t : Nat) : Prop where
  hs : s < 8
  ht : t < 8
  ne : s ≠ t
  lt : ∀ p ∈ ps, p.1 < 8 ∧ p.2 < 8
  up : ∃ rk : Nat → Nat, ∀ p ∈ ps, rk p.1 < rk p.2
  use : ∀ p ∈ ps, (p.1 = s ∨ Ld ps s p.1) ∧ (p.2 = t ∨ Ld ps p.2 t)
theorem fwd_sound {P : Nat → Prop} : ∀ {ps : List (Nat × Nat)} {F : List Nat}, (∀ p ∈ ps, P p.1 → P p.2) → (∀ a ∈ F, P a) → ∀ a ∈ fwd ps F, P a
  | [], F, _, hF => hF
  | p :: r, F, h, hF => by
    unfold fwd
    rw [List.foldl_cons]
    refine fwd_sound (ps := r) (fun q hq => h q (List.mem_cons_of_mem _ hq)) fun a ha => ?_
    by_cases h1 : p.1 ∈ F
    · rw [if_pos h1] at ha
      by_cases h2 : p.2 ∈ F
      · rw [if_pos h2] at ha
        exact hF a ha
      · rw [if_neg h2] at ha
        rcases List.mem_cons.mp ha with e | e
        · rw [e]; exact h p List.mem_cons_self (hF _ h1)
        · exact hF a e
    · rw [if_neg h1] at ha
      exact hF a ha
theorem bwd_sound {P : Nat → Prop} : ∀ {ps : List (Nat × Nat)} {F : List Nat}, (∀ p ∈ ps, P p.2 → P p.1) → (∀ a ∈ F, P a) → ∀ a ∈ bwd ps F, P a
  | [], F, _, hF => hF
  | p :: r, F, h, hF => by
    have ih := bwd_sound (ps := r) (F := F) (fun q hq => h q (List.mem_cons_of_mem _ hq)) hF
    unfold bwd at ih ⊢
    rw [List.foldr_cons]
    intro a ha
    generalize List.foldr (fun p F => if p.2 ∈ F then (if p.1 ∈ F then F else p.1 :: F) else F) F r = G at ih ha
    by_cases h1 : p.2 ∈ G
    · rw [if_pos h1] at ha
      by_cases h2 : p.1 ∈ G
      · rw [if_pos h2] at ha
        exact ih a ha
      · rw [if_neg h2] at ha
        rcases List.mem_cons.mp ha with e | e
        · rw [e]; exact h p List.mem_cons_self (ih _ h1)
        · exact ih a e
    · rw [if_neg h1] at ha
      exact ih a ha
theorem fwdN_sound {ps : List (Nat × Nat)} {s : Nat} : ∀ (n : Nat), ∀ a ∈ fwdN ps s n, a = s ∨ Ld ps s a
  | 0, a, h => .inl (List.mem_singleton.mp h)
  | n + 1, a, h => fwd_sound (P := fun a => a = s ∨ Ld ps s a) (fun p hp q => .inr (q.elim (fun e => by rw [← e]; exact .one hp) fun e => .more e hp)) (fwdN_sound n) a h
theorem bwdN_sound {ps : List (Nat × Nat)} {s : Nat} : ∀ (n : Nat), ∀ a ∈ bwdN ps s n, a = s ∨ Ld ps a s
  | 0, a, h => .inl (List.mem_singleton.mp h)
  | n + 1, a, h => bwd_sound (P := fun a => a = s ∨ Ld ps a s) (fun p hp q => .inr (q.elim (fun e => by rw [← e]; exact .one hp) fun e => Ld.trans (.one hp) e)) (bwdN_sound n) a h
theorem fine_of {ps : List (Nat × Nat)} {s t : Nat} (h : fineB ps s t = true) : Fine ps s t ∧ 1 ≤ ps.length ∧ ps.length ≤ 9 := by
  unfold fineB at h
  simp only [Bool.and_eq_true, decide_eq_true_eq, Bool.not_eq_true', decide_eq_false_iff_not, List.all_eq_true] at h
  obtain ⟨⟨⟨⟨⟨h1, h2⟩, h3⟩, h4⟩, h5⟩, h6⟩ := h
  exact ⟨⟨h1, h2, h3, fun p hp => ⟨(h6 p hp).1.1.1.1, (h6 p hp).1.1.1.2⟩, ⟨fun a => (rkOf ps 3).getD a 0, fun p hp => (h6 p hp).1.1.2⟩, fun p hp => ⟨fwdN_sound 2 _ (h6 p hp).1.2, bwdN_sound 2 _ (h6 p hp).2⟩⟩, h4, h5⟩
/-- a link beside another one -/
theorem Fine.twice {ps : List (Nat × Nat)} {s t : Nat} {p : Nat × Nat} (g : Fine ps s t) (hp : p ∈ ps) : Fine (ps ++ [p]) s t := by
  have hm : ∀ q ∈ ps ++ [p], q ∈ ps := fun q hq => by
    rcases List.mem_append.mp hq with h | h
    · exact h
    · rw [List.mem_singleton.mp h]; exact hp
  have hl : ∀ {a b : Nat}, Ld ps a b → Ld (ps ++ [p]) a b := fun h => h.sub fun q hq => .one (List.mem_append_left _ hq)
  exact ⟨g.hs, g.ht, g.ne, fun q hq => g.lt q (hm q hq), let ⟨rk, h⟩ := g.up; ⟨rk, fun q hq => h q (hm q hq)⟩, fun q hq => ⟨(g.use q (hm q hq)).1.imp id hl, (g.use q (hm q hq)).2.imp id hl⟩⟩
theorem fine_rows {ls ws : List Str} {ps : List (Nat × Nat)} {s t : Nat} (g : Fine ps s t) (hw : NamesOk ws 8) (hl : ls.length = ps.length) (nl : ls.Nodup) (okl : ∀ z ∈ ls, vn z = true ∧ Wn z) (hps : 1 ≤ ps.length) :
    NetOk (rowsOf ls ws ps) (ws.getD s "") (ws.getD t "") 8 := by
  have memw : ∀ {v : Nat}, v < 8 → ws.getD v "" ∈ ws := fun {v} hv => by rw [getD_of (List.getElem?_eq_getElem (by rw [hw.len]; exact hv))]; exact List.getElem_mem _
  have okw : ∀ {v : Nat}, v < 8 → vn (ws.getD v "") = true ∧ Wn (ws.getD v "") := fun hv => hw.ok _ (memw hv)
  have inj : ∀ {a b : Nat}, a < 8 → b < 8 → ws.getD a "" = ws.getD b "" → a = b := fun ha hb h => getD_inj hw.nd (by rw [hw.len]; exact ha) (by rw [hw.len]; exact hb) h
  obtain ⟨rk, hrk⟩ := g.up
  have up : ∀ {p q : Str}, Lead (rowsOf ls ws ps) p q → ∃ a b : Nat, p = ws.getD a "" ∧ q = ws.getD b "" ∧ a < 8 ∧ b < 8 ∧ rk a < rk b := by
    intro p q h
    induction h with
    | one he =>
      obtain ⟨p, hp, e1, e2, _⟩ := row_of he
      exact ⟨p.1, p.2, e1, e2, (g.lt p hp).1, (g.lt p hp).2, hrk p hp⟩
    | more _ he ih =>
      obtain ⟨a, b, e1, e2, h1, h2, l⟩ := ih
      obtain ⟨p, hp, f1, f2, _⟩ := row_of he
      have eb : b = p.1 := inj h2 (g.lt p hp).1 (e2.symm.trans f1)
      have := hrk p hp
      rw [← eb] at this
      exact ⟨a, p.2, e1, f2, h1, (g.lt p hp).2, by omega⟩
  refine ⟨by unfold rowsOf; rw [List.length_map, List.length_range]; exact hps, by rw [names_rows hl]; exact nl, fun e he => ?_, okw g.hs, okw g.ht, fun z => g.ne (inj g.hs g.ht z), fun p h => ?_, fun e he => ?_, ws, by rw [hw.len]; exact Nat.le_refl _, memw g.hs, memw g.ht, fun e he => ?_⟩
  · obtain ⟨p, hp, e1, e2, k, hk, e3⟩ := row_of he
    have h1 := okw (g.lt p hp).1
    have h2 := okw (g.lt p hp).2
    have h3 := okl (ls.getD k "") (by rw [getD_of (List.getElem?_eq_getElem (show k < ls.length by omega))]; exact List.getElem_mem _)
    rw [← e1] at h1
    rw [← e2] at h2
    rw [← e3] at h3
    exact ⟨⟨h3.1, h1.1, h2.1⟩, h3.2, h1.2, h2.2⟩
  · obtain ⟨a, b, e1, e2, h1, h2, l⟩ := up h
    have eb : a = b := inj h1 h2 (e1.symm.trans e2)
    rw [eb] at l
    omega
  · obtain ⟨p, hp, e1, e2, _⟩ := row_of he
    refine ⟨?_, ?_⟩
    · rw [e1]
      exact (g.use p hp).1.imp (fun z => by rw [z]) fun z => lead_of z
    · rw [e2]
      exact (g.use p hp).2.imp (fun z => by rw [z]) fun z => lead_of z
  · obtain ⟨p, hp, e1, e2, _⟩ := row_of he
    rw [e1, e2]
    exact ⟨memw (g.lt p hp).1, memw (g.lt p hp).2⟩
/-! ### the planted pair is one -/
theorem found_row {ls ws : List Str} {ps : List (Nat × Nat)} (hl : ls.length = ps.length) (nl : ls.Nodup) {k : Nat} (hk : k < ps.length) : found (rowsOf ls ws ps) (ls.getD k "") = some (ws.getD (ps.getD k (0, 0)).1 "", ws.getD (ps.getD k (0, 0)).2 "") := by
  have hm : rowAt ls ws ps k ∈ rowsOf ls ws ps := List.mem_map.mpr ⟨k, List.mem_range.mpr hk, rfl⟩
  unfold found
  cases e : (rowsOf ls ws ps).find? fun e => decide (e.1 = ls.getD k "") with
  | none =>
    have := List.find?_eq_none.mp e _ hm
    exact absurd (decide_eq_true rfl) this
  | some x =>
    have h0 := List.find?_some (p := fun e : Ent => decide (e.1 = ls.getD k "")) e
    have h1 := of_decide_eq_true h0
    obtain ⟨j, hj, rfl⟩ := List.mem_map.mp (List.mem_of_find?_eq_some e)
    have hj := List.mem_range.mp hj
    have : j = k := getD_inj nl (by omega) (by omega) h1
    rw [this]
    rfl
/-- what is meant by numbers is meant by names -/
structure Tr (es : List Ent) (nm pl : Nat → Str) (ps : List (Nat × Nat)) : Prop where
  th : ∀ k < ps.length, tailOf es (nm k) = pl (ps.getD k (0, 0)).1 ∧ headOf es (nm k) = pl (ps.getD k (0, 0)).2 ∧ nm k ∈ names es
  lt : ∀ k < ps.length, (ps.getD k (0, 0)).1 < 8 ∧ (ps.getD k (0, 0)).2 < 8
  inj : ∀ a b, a < 8 → b < 8 → pl a = pl b → a = b
theorem Tr.heads {es : List Ent} {nm pl : Nat → Str} {ps : List (Nat × Nat)} (T : Tr es nm pl ps) {r : List Nat} (hr : ∀ k ∈ r, k < ps.length) : (r.map nm).map (headOf es) = (r.map fun k => (ps.getD k (0, 0)).2).map pl := by
  rw [List.map_map, List.map_map]
  exact List.map_congr_left fun k hk => (T.th k (hr k hk)).2.1
theorem Tr.tails {es : List Ent} {nm pl : Nat → Str} {ps : List (Nat × Nat)} (T : Tr es nm pl ps) {r : List Nat} (hr : ∀ k ∈ r, k < ps.length) : (r.map nm).map (tailOf es) = (r.map fun k => (ps.getD k (0, 0)).1).map pl := by
  rw [List.map_map, List.map_map]
  exact List.map_congr_left fun k hk => (T.th k (hr k hk)).1
theorem lastOf_map (pl : Nat → Str) (f : Nat) (l : List Nat) : lastOf (pl f) (l.map pl) = pl ((f :: l).getLastD 0) := by
  unfold lastOf
  have : (f :: l) ≠ [] := by simp
  rw [List.getLastD_eq_getLast?, List.getLast?_eq_some_getLast this]
  show (pl f :: l.map pl).getLast _ = pl ((f :: l).getLast this)
  exact List.getLast_map (f := pl) (l := f :: l) (by simp)
theorem Tr.con {es : List Ent} {nm pl : Nat → Str} {ps : List (Nat × Nat)} (T : Tr es nm pl ps) {r : List Nat} {f g : Nat} (hr : ∀ k ∈ r, k < ps.length) (h : conN ps r f g = true) : conB es (r.map nm) (pl f) (pl g) = true := by
  unfold conN at h
  rw [Bool.and_eq_true, decide_eq_true_eq, decide_eq_true_eq] at h
  unfold conB
  rw [Bool.and_eq_true, decide_eq_true_eq, decide_eq_true_eq, T.heads hr, T.tails hr, h.1, lastOf_map, h.2]
  refine ⟨?_, rfl⟩
  rw [show pl f :: List.map pl (r.map fun k => (ps.getD k (0, 0)).2) = (f :: r.map fun k => (ps.getD k (0, 0)).2).map pl from rfl, List.map_dropLast]
theorem inner_map (pl : Nat → Str) (l : List Nat) : innerOf (l.map pl) = (innerN l).map pl := by
  unfold innerOf innerN
  rw [List.length_map, ← List.map_take, ← List.map_drop]
theorem apart_map {pl : Nat → Str} (inj : ∀ a b, a < 8 → b < 8 → pl a = pl b → a = b) {rows : List (List Nat)} (hr : ∀ r ∈ rows, ∀ a ∈ r, a < 8) (h : apartN rows = true) : apartB (rows.map fun r => r.map pl) = true := by
  refine apartB_iff.mpr fun i r hi p hp j o ho hne hm => ?_
  rw [List.getElem?_map] at hi ho
  cases e1 : rows[i]? with
  | none => rw [e1] at hi; cases hi
  | some ri =>
  cases e2 : rows[j]? with
  | none => rw [e2] at ho; cases ho
  | some rj =>
  rw [e1] at hi
  rw [e2] at ho
  obtain rfl := Option.some.inj hi
  obtain rfl := Option.some.inj ho
  rw [inner_map] at hp
  obtain ⟨a, ha, rfl⟩ := List.mem_map.mp hp
  obtain ⟨b, hb, e⟩ := List.mem_map.mp hm
  have ha1 : a ∈ ri := List.mem_of_mem_take (List.mem_of_mem_drop ha)
  have hab := inj b a (hr rj (List.mem_of_getElem? e2) b hb) (hr ri (List.mem_of_getElem? e1) a ha1) e
  rw [hab] at hb
  unfold apartN at h
  have h1 := List.all_eq_true.mp h i (List.mem_range.mpr (List.getElem?_eq_some_iff.mp e1).1)
  rw [getD_of e1] at h1
  have h2 := List.all_eq_true.mp (List.all_eq_true.mp h1 a ha) j (List.mem_range.mpr (List.getElem?_eq_some_iff.mp e2).1)
  rw [getD_of e2, Bool.or_eq_true, decide_eq_true_eq, Bool.not_eq_true', decide_eq_false_iff_not] at h2
  exact h2.elim hne fun z => z hb
theorem con_first {ps : List (Nat × Nat)} {r : List Nat} {f g : Nat} (hne : r.length ≠ 0) (h : conN ps r f g = true) : (ps.getD (r.getD 0 0) (0, 0)).1 = f ∧ (ps.getD (r.getD (r.length - 1) 0) (0, 0)).2 = g := by
  unfold conN at h
  rw [Bool.and_eq_true, decide_eq_true_eq, decide_eq_true_eq] at h
  cases r with
  | nil => exact absurd rfl hne
  | cons k r =>
    refine ⟨?_, ?_⟩
    · have := congrArg (fun l => l[0]?) h.1
      rw [List.map_cons, List.map_cons, List.dropLast_cons_of_ne_nil (by simp)] at this
      exact Option.some.inj this
    · have h2 := h.2
      rw [List.getLastD_eq_getLast?, List.getLast?_eq_getElem?, List.length_cons, List.length_map, List.length_cons, show r.length + 1 + 1 - 1 = r.length + 1 from rfl, List.getElem?_cons_succ, List.getElem?_map] at h2
      have hk : (k :: r)[r.length]? = some ((k :: r).getD r.length 0) := by
        rw [List.getD_eq_getElem?_getD, List.getElem?_eq_getElem (show r.length < (k :: r).length by simp)]
        rfl
      rw [hk] at h2
      exact h2
theorem Tr.pair {es : List Ent} {nm pl : Nat → Str} {ps : List (Nat × Nat)} (T : Tr es nm pl ps) {s t : Nat} (hs : s < 8) (ht : t < 8) {rows : List (List Nat)} (h : pairN ps s t rows = true) : pairB es (pl s) (pl t) (rows.map fun r => r.map nm) = true := by
  unfold pairN at h
  simp only [Bool.and_eq_true, decide_eq_true_eq] at h
  obtain ⟨⟨⟨⟨h7, hne⟩, hin⟩, hcon⟩, hap⟩ := h
  obtain ⟨r0, r1, r2, r3, r4, r5, r6, rfl⟩ : ∃ r0 r1 r2 r3 r4 r5 r6, rows = [r0, r1, r2, r3, r4, r5, r6] := by
    match rows, h7 with
    | [a, b, c, d, e, f, g], _ => exact ⟨a, b, c, d, e, f, g, rfl⟩
  have hin : ∀ r ∈ [r0, r1, r2, r3, r4, r5, r6], ∀ k ∈ r, k < ps.length := fun r hr k hk => by
    have := List.all_eq_true.mp hin r hr
    rw [Bool.and_eq_true] at this
    exact of_decide_eq_true (List.all_eq_true.mp this.2 k hk)
  have nz : ∀ r ∈ [r1, r2, r3, r4, r5], r.length ≠ 0 := fun r hr => by
    have := List.all_eq_true.mp hne r hr
    rw [Bool.not_eq_true', decide_eq_false_iff_not] at this
    exact this
  have hcon := List.all_eq_true.mp hcon
  have c1 : conN ps r1 0 1 = true := hcon (r1, 0, 1) (by simp)
  have c2 : conN ps r2 1 3 = true := hcon (r2, 1, 3) (by simp)
  have c3 : conN ps r3 0 2 = true := hcon (r3, 0, 2) (by simp)
  have f1 := con_first (nz r1 (by simp)) c1
  have f2 := con_first (nz r2 (by simp)) c2
  have f3 := con_first (nz r3 (by simp)) c3
  have at0 : ∀ r : List Nat, r.length ≠ 0 → firstN (r.map nm) = nm (r.getD 0 0) ∧ lastN (r.map nm) = nm (r.getD (r.length - 1) 0) ∧ r.getD 0 0 ∈ r ∧ r.getD (r.length - 1) 0 ∈ r := fun r hr => by
    have g0 : r[0]? = some (r.getD 0 0) := by rw [List.getD_eq_getElem?_getD, List.getElem?_eq_getElem (by omega)]; rfl
    have g1 : r[r.length - 1]? = some (r.getD (r.length - 1) 0) := by rw [List.getD_eq_getElem?_getD, List.getElem?_eq_getElem (show r.length - 1 < r.length by omega)]; rfl
    refine ⟨?_, ?_, List.mem_of_getElem? g0, List.mem_of_getElem? g1⟩
    · unfold firstN
      exact getD_of (by rw [List.getElem?_map, g0]; rfl)
    · unfold lastN
      rw [List.length_map]
      exact getD_of (by rw [List.getElem?_map, g1]; rfl)
  have ec : tailOf es (firstN (r1.map nm)) = pl 0 := by
    have := at0 r1 (nz r1 (by simp))
    rw [this.1, (T.th _ (hin r1 (by simp) _ this.2.2.1)).1, f1.1]
  have ex : headOf es (lastN (r1.map nm)) = pl 1 := by
    have := at0 r1 (nz r1 (by simp))
    rw [this.2.1, (T.th _ (hin r1 (by simp) _ this.2.2.2)).2.1, f1.2]
  have ev : headOf es (lastN (r3.map nm)) = pl 2 := by
    have := at0 r3 (nz r3 (by simp))
    rw [this.2.1, (T.th _ (hin r3 (by simp) _ this.2.2.2)).2.1, f3.2]
  have em : headOf es (lastN (r2.map nm)) = pl 3 := by
    have := at0 r2 (nz r2 (by simp))
    rw [this.2.1, (T.th _ (hin r2 (by simp) _ this.2.2.2)).2.1, f2.2]
  have eends : pairEnds es (pl s) (pl t) (r1.map nm) (r2.map nm) (r3.map nm) = [(s, 0), (0, 1), (1, 3), (0, 2), (2, 3), (1, 2), (3, t)].map fun q : Nat × Nat => (pl q.1, pl q.2) := by
    unfold pairEnds
    dsimp only
    rw [ec, ex, ev, em]
    rfl
  have ezip : (([r0, r1, r2, r3, r4, r5, r6].map fun r => r.map nm).zip ([(s, 0), (0, 1), (1, 3), (0, 2), (2, 3), (1, 2), (3, t)].map fun q : Nat × Nat => (pl q.1, pl q.2))) = ([r0, r1, r2, r3, r4, r5, r6].zip [(s, 0), (0, 1), (1, 3), (0, 2), (2, 3), (1, 2), (3, t)]).map fun q => (q.1.map nm, pl q.2.1, pl q.2.2) := rfl
  unfold pairB
  have eends2 : pairEnds es (pl s) (pl t) (([r0, r1, r2, r3, r4, r5, r6].map fun r => r.map nm).getD 1 []) (([r0, r1, r2, r3, r4, r5, r6].map fun r => r.map nm).getD 2 []) (([r0, r1, r2, r3, r4, r5, r6].map fun r => r.map nm).getD 3 []) = [(s, 0), (0, 1), (1, 3), (0, 2), (2, 3), (1, 2), (3, t)].map fun q : Nat × Nat => (pl q.1, pl q.2) := eends
  rw [eends2]
  dsimp only
  rw [ezip]
  rw [Bool.and_eq_true, Bool.and_eq_true, Bool.and_eq_true]
  refine ⟨⟨⟨?_, ?_⟩, ?_⟩, ?_⟩
  · rw [Bool.not_eq_true', List.any_eq_false]
    intro r hr
    have hr : r ∈ [r1, r2, r3, r4, r5].map fun r => r.map nm := hr
    obtain ⟨r', hr', rfl⟩ := List.mem_map.mp hr
    rw [decide_eq_true_eq, List.length_map]
    exact nz r' hr'
  · refine List.all_eq_true.mpr fun r hr => ?_
    have hr : r ∈ [r0, r1, r2, r3, r4, r5, r6].map fun r => r.map nm := hr
    obtain ⟨r', hr', rfl⟩ := List.mem_map.mp hr
    refine List.all_eq_true.mpr fun z hz => ?_
    obtain ⟨k, hk, rfl⟩ := List.mem_map.mp hz
    exact decide_eq_true (T.th k (hin r' hr' k hk)).2.2
  · refine List.all_eq_true.mpr fun q hq => ?_
    have hq : q ∈ ([r0, r1, r2, r3, r4, r5, r6].zip [(s, 0), (0, 1), (1, 3), (0, 2), (2, 3), (1, 2), (3, t)]).map fun q => (q.1.map nm, pl q.2.1, pl q.2.2) := hq
    obtain ⟨q', hq', rfl⟩ := List.mem_map.mp hq
    exact T.con (hin q'.1 (List.of_mem_zip (a := q'.1) (b := q'.2) hq').1) (hcon q' hq')
  · have h9 := apart_map T.inj (rows := (([r0, r1, r2, r3, r4, r5, r6].zip [(s, 0), (0, 1), (1, 3), (0, 2), (2, 3), (1, 2), (3, t)]).map fun q => q.2.1 :: q.1.map fun k => (ps.getD k (0, 0)).2)) (fun r hr a ha => ?_) hap
    · have e9 : (([r0, r1, r2, r3, r4, r5, r6].zip [(s, 0), (0, 1), (1, 3), (0, 2), (2, 3), (1, 2), (3, t)]).map fun q => q.2.1 :: q.1.map fun k => (ps.getD k (0, 0)).2).map (fun r => r.map pl) = (([r0, r1, r2, r3, r4, r5, r6].zip [(s, 0), (0, 1), (1, 3), (0, 2), (2, 3), (1, 2), (3, t)]).map fun q => (q.1.map nm, pl q.2.1, pl q.2.2)).map fun q => stopsOf es q.1 q.2.1 := by
        rw [List.map_map, List.map_map]
        refine List.map_congr_left fun q hq => ?_
        show pl q.2.1 :: (q.1.map fun k => (ps.getD k (0, 0)).2).map pl = pl q.2.1 :: (q.1.map nm).map (headOf es)
        rw [T.heads (hin q.1 (List.of_mem_zip (a := q.1) (b := q.2) hq).1)]
      rw [e9] at h9
      exact h9
    · obtain ⟨q, hq, rfl⟩ := List.mem_map.mp hr
      have hz := List.of_mem_zip (a := q.1) (b := q.2) hq
      rcases List.mem_cons.mp ha with e | e
      · rw [e]
        have h2 := hz.2
        simp only [List.mem_cons, List.not_mem_nil, or_false] at h2
        rcases h2 with e | e | e | e | e | e | e <;> rw [e] <;> first | exact hs | exact (by decide : (0 : Nat) < 8) | exact (by decide : (1 : Nat) < 8) | exact (by decide : (2 : Nat) < 8) | exact (by decide : (3 : Nat) < 8)
      · obtain ⟨k, hk, rfl⟩ := List.mem_map.mp e
        exact (T.lt k (hin q.1 hz.1 k hk)).2

/-! ### links are planted: what stands on the heap -/
def RowI (H : Hp) (L : Addr) (r : List Nat) : Prop := H L = some (.lst (r.map fun v : Nat => V.int (v : Int)))
theorem pairs_keep {H : Hp} {l E : Addr} {o : HO} {x : List V} {en : List (Nat × Nat)} (hl : H l = some (.lst x)) (p : PairsAt H E en) (ne : E ≠ l) : PairsAt (upd H l o) E en := by
  obtain ⟨qs, e, pr⟩ := p
  refine ⟨qs, by rw [upd_ne ne]; exact e, pr.mono fun q a h => ?_⟩
  have h : H q = some (.tup [.int (a.1 : Int), .int (a.2 : Int)]) := h
  show upd H l o q = _
  rw [upd_ne (fun z => by rw [z, hl] at h; cases h)]
  exact h
structure PlW (G0 G : Hp) (S E l R : Addr) (sz : List Nat) (en ps : List (Nat × Nat)) (ls : List Addr) (rows : List (List Nat)) : Prop where
  sm : Same G0 G
  fl : G0 l = none
  fR : G0 R = none
  lR : l ≠ R
  Sl : S ≠ l
  SR : S ≠ R
  El : E ≠ l
  ER : E ≠ R
  hS : RowI G S sz
  hE : PairsAt G E en
  hl : PairsAt G l ps
  hR : G R = some (.lst (ls.map V.ref))
  pr : Paired (fun L r => RowI G L r ∧ L ≠ l ∧ L ≠ R) ls rows
theorem PlW.on {G0 G G' : Hp} {S E l R : Addr} {sz : List Nat} {en ps : List (Nat × Nat)} {ls : List Addr} {rows : List (List Nat)} (p : PlW G0 G S E l R sz en ps ls rows) (s : Same G G') : PlW G0 G' S E l R sz en ps ls rows where
  sm := p.sm.trans s
  fl := p.fl
  fR := p.fR
  lR := p.lR
  Sl := p.Sl
  SR := p.SR
  El := p.El
  ER := p.ER
  hS := s _ _ p.hS
  hE := p.hE.on s
  hl := p.hl.on s
  hR := s _ _ p.hR
  pr := p.pr.mono fun _ _ h => ⟨s _ _ h.1, h.2⟩
theorem PlW.setl {G0 G : Hp} {S E l R : Addr} {sz : List Nat} {en ps ps' : List (Nat × Nat)} {ls : List Addr} {rows : List (List Nat)} {qs' : List Addr} (p : PlW G0 G S E l R sz en ps ls rows) (h : Paired (PairAt G) qs' ps') : PlW G0 (upd G l (.lst (qs'.map V.ref))) S E l R sz en ps' ls rows where
  sm := same_keep p.fl p.sm
  fl := p.fl
  fR := p.fR
  lR := p.lR
  Sl := p.Sl
  SR := p.SR
  El := p.El
  ER := p.ER
  hS := by show upd _ _ _ _ = _; rw [upd_ne p.Sl]; exact p.hS
  hE := let ⟨_, e, _⟩ := p.hl; pairs_keep e p.hE p.El
  hl := let ⟨_, e, _⟩ := p.hl; pairs_put (q := l) e h
  hR := by rw [upd_ne p.lR.symm]; exact p.hR
  pr := p.pr.mono fun L r h => ⟨by show upd _ _ _ _ = _; rw [upd_ne h.2.1]; exact h.1, h.2⟩
/-- while a row is laid -/
structure PlC (G0 G : Hp) (S E l R : Addr) (sz : List Nat) (en ps : List (Nat × Nat)) (ls : List Addr) (rows : List (List Nat)) (L : Addr) (row : List Nat) : Prop where
  w : PlW G0 G S E l R sz en ps ls rows
  hL : RowI G L row
  fL : G0 L = none
  nL : L ∉ ls
  Ll : L ≠ l
  LR : L ≠ R
  SL : S ≠ L
  EL : E ≠ L
theorem PlC.start {G0 G H : Hp} {st S E l R : Addr} {m : Nat} {sz : List Nat} {en ps : List (Nat × Nat)} {ls : List Addr} {rows : List (List Nat)} {L : Addr} (p : PlW G0 G S E l R sz en ps ls rows) (n : G L = none) : PlC G0 (upd G L (.lst [])) S E l R sz en ps ls rows L [] where
  w := p.on (same_upd n)
  hL := upd_same
  fL := p.sm.free n
  nL := fun h => by
    obtain ⟨i, hi⟩ := List.mem_iff_getElem?.mp h
    obtain ⟨r, _, e⟩ := pair_at p.pr hi
    have e : G L = _ := e.1
    rw [n] at e
    cases e
  Ll := fun z => by obtain ⟨_, e, _⟩ := p.hl; rw [← z, n] at e; cases e
  LR := fun z => by have e := p.hR; rw [← z, n] at e; cases e
  SL := fun z => by have e : G S = _ := p.hS; rw [z, n] at e; cases e
  EL := fun z => by obtain ⟨_, e, _⟩ := p.hE; rw [z, n] at e; cases e
theorem PlC.on {G0 G G' : Hp} {S E l R : Addr} {sz : List Nat} {en ps : List (Nat × Nat)} {ls : List Addr} {rows : List (List Nat)} {L : Addr} {row : List Nat} (p : PlC G0 G S E l R sz en ps ls rows L row) (s : Same G G') : PlC G0 G' S E l R sz en ps ls rows L row where
  w := p.w.on s
  hL := s _ _ p.hL
  fL := p.fL
  nL := p.nL
  Ll := p.Ll
  LR := p.LR
  SL := p.SL
  EL := p.EL
theorem PlC.setl {G0 G : Hp} {S E l R : Addr} {sz : List Nat} {en ps ps' : List (Nat × Nat)} {ls : List Addr} {rows : List (List Nat)} {L : Addr} {row : List Nat} {qs' : List Addr} (p : PlC G0 G S E l R sz en ps ls rows L row) (h : Paired (PairAt G) qs' ps') : PlC G0 (upd G l (.lst (qs'.map V.ref))) S E l R sz en ps' ls rows L row where
  w := p.w.setl h
  hL := by show upd _ _ _ _ = _; rw [upd_ne p.Ll]; exact p.hL
  fL := p.fL
  nL := p.nL
  Ll := p.Ll
  LR := p.LR
  SL := p.SL
  EL := p.EL
theorem PlC.addi {G0 G : Hp} {S E l R : Addr} {sz : List Nat} {en ps : List (Nat × Nat)} {ls : List Addr} {rows : List (List Nat)} {L : Addr} {row row' : List Nat} (p : PlC G0 G S E l R sz en ps ls rows L row) : PlC G0 (upd G L (.lst (row'.map fun v : Nat => V.int (v : Int)))) S E l R sz en ps ls rows L row' where
  w := {
    sm := same_keep p.fL p.w.sm
    fl := p.w.fl
    fR := p.w.fR
    lR := p.w.lR
    Sl := p.w.Sl
    SR := p.w.SR
    El := p.w.El
    ER := p.w.ER
    hS := by show upd _ _ _ _ = _; rw [upd_ne p.SL]; exact p.w.hS
    hE := pairs_keep p.hL p.w.hE p.EL
    hl := pairs_keep p.hL p.w.hl (Ne.symm p.Ll)
    hR := by rw [upd_ne (Ne.symm p.LR)]; exact p.w.hR
    pr := by
      have : ∀ {xs : List Addr} {ys : List (List Nat)}, (∀ x ∈ xs, x ≠ L) → Paired (fun L r => RowI G L r ∧ L ≠ l ∧ L ≠ R) xs ys → Paired (fun M r => RowI (upd G L (.lst (row'.map fun v : Nat => V.int (v : Int)))) M r ∧ M ≠ l ∧ M ≠ R) xs ys := by
        intro xs ys h p
        induction p with
        | nil => exact .nil
        | cons a _ ih => exact .cons ⟨by show upd _ _ _ _ = _; rw [upd_ne (h _ List.mem_cons_self)]; exact a.1, a.2⟩ (ih fun x hx => h x (List.mem_cons_of_mem _ hx))
      exact this (fun x hx z => p.nL (z ▸ hx)) p.w.pr }
  hL := upd_same
  fL := p.fL
  nL := p.nL
  Ll := p.Ll
  LR := p.LR
  SL := p.SL
  EL := p.EL
theorem PlC.done {G0 G : Hp} {S E l R : Addr} {sz : List Nat} {en ps : List (Nat × Nat)} {ls : List Addr} {rows : List (List Nat)} {L : Addr} {row : List Nat} (p : PlC G0 G S E l R sz en ps ls rows L row) : PlW G0 (upd G R (.lst ((ls ++ [L]).map V.ref))) S E l R sz en ps (ls ++ [L]) (rows ++ [row]) where
  sm := same_keep p.w.fR p.w.sm
  fl := p.w.fl
  fR := p.w.fR
  lR := p.w.lR
  Sl := p.w.Sl
  SR := p.w.SR
  El := p.w.El
  ER := p.w.ER
  hS := by show upd _ _ _ _ = _; rw [upd_ne p.w.SR]; exact p.w.hS
  hE := pairs_keep p.w.hR p.w.hE p.w.ER
  hl := pairs_keep p.w.hR p.w.hl p.w.lR
  hR := upd_same
  pr := by
    refine paired_snoc ⟨?_, p.Ll, p.LR⟩ (p.w.pr.mono fun M r h => ⟨?_, h.2⟩)
    · show upd _ _ _ _ = _
      rw [upd_ne p.LR]
      exact p.hL
    · show upd _ _ _ _ = _
      rw [upd_ne h.2.2]
      exact h.1
/-! sizes -/
theorem sz_set {v : List Nat} {i : Nat} (hv : v.length = 7) (hi : i < 7) : (szOf v).set i ((szOf v).getD i 0 + 1) = szOf (v.set i (v.getD i 0 + 1)) := by
  match v, hv with
  | [a, b, c, d, e, f, g], _ =>
    have : i = 0 ∨ i = 1 ∨ i = 2 ∨ i = 3 ∨ i = 4 ∨ i = 5 ∨ i = 6 := by omega
    rcases this with rfl | rfl | rfl | rfl | rfl | rfl | rfl <;> simp [szOf, baseV, Nat.add_assoc]
theorem sum_set {v : List Nat} {i : Nat} (hv : v.length = 7) (hi : i < 7) : (v.set i (v.getD i 0 + 1)).sum = v.sum + 1 := by
  match v, hv with
  | [a, b, c, d, e, f, g], _ =>
    have : i = 0 ∨ i = 1 ∨ i = 2 ∨ i = 3 ∨ i = 4 ∨ i = 5 ∨ i = 6 := by omega
    rcases this with rfl | rfl | rfl | rfl | rfl | rfl | rfl <;> simp <;> omega
theorem sz_len {v : List Nat} (hv : v.length = 7) : (szOf v).length = 7 := by
  unfold szOf baseV
  rw [List.length_zipWith, hv]
  rfl
theorem sz_le {v : List Nat} (hv : v.length = 7) (hs : v.sum ≤ 4) (i : Nat) : (szOf v).getD i 0 ≤ 5 := by
  match v, hv with
  | [a, b, c, d, e, f, g], _ =>
    simp only [List.sum_cons, List.sum_nil] at hs
    match i with
    | 0 | 1 | 2 | 3 | 4 | 5 | 6 => simp [szOf, baseV]; omega
    | _ + 7 => simp [szOf, baseV]
theorem ends_set {G H : Hp} {st E t : Addr} {m : Nat} {en : List (Nat × Nat)} {qs : List Addr} (d : DSt G H st m) (gE : G E = some (.lst (qs.map V.ref))) (pq : Paired (PairAt G) qs en) (nt : H t = none) (i a b : Nat) :
    DSt (upd (upd G t (.tup [.int (a : Int), .int (b : Int)])) E (.lst ((qs.set i t).map V.ref))) (upd (upd H t (.tup [.int (a : Int), .int (b : Int)])) E (.lst ((qs.set i t).map V.ref))) st m ∧
      PairsAt (upd (upd G t (.tup [.int (a : Int), .int (b : Int)])) E (.lst ((qs.set i t).map V.ref))) E (en.set i (a, b)) := by
  have ntG := d.free nt
  have Et : E ≠ t := ne_of_none gE ntG
  refine ⟨(d.new nt).put (p := E) (u := .lst (qs.map V.ref)) (by rw [upd_ne Et]; exact gE), ?_⟩
  exact pairs_put (q := E) (qs := qs) (by rw [upd_ne Et]; exact gE) (paired_set (show PairAt _ t (a, b) from upd_same) (pq.mono fun x y h => same_upd ntG _ _ h))
theorem sz_at {H : Hp} {S : Addr} {sz : List Nat} {i : Nat} (hi : i < sz.length) : (sz.map fun v : Nat => V.int (v : Int))[i]? = some (V.int (sz.getD i 0 : Nat)) := by
  rw [List.getElem?_map, List.getElem?_eq_getElem hi, List.getD_eq_getElem?_getD, List.getElem?_eq_getElem hi]
  rfl

section
variable {P : Program} {w : World} {K : PySem.W.Frag} {mg : Str → Option Value} {base : Heap}
def RowsN (H : Hp) (l R : Addr) (rows : List (List Nat)) : Prop := ∃ ls : List Addr, H R = some (.lst (ls.map V.ref)) ∧ Paired (fun L r => RowI H L r ∧ L ≠ l) ls rows
theorem RowsN.on {H H' : Hp} {l R : Addr} {rows : List (List Nat)} (h : RowsN H l R rows) (s : Same H H') : RowsN H' l R rows := let ⟨ls, a, p⟩ := h; ⟨ls, s _ _ a, p.mono fun _ _ h => ⟨s _ _ h.1, h.2⟩⟩
def spPlanted : Sp := fun vs H Q _ => ∃ (G : Hp) (st : Addr) (m : Nat), vs = [.ref st] ∧ DSt G H st m ∧ m < 900000 ∧
  ∀ (t l R : Addr) (v : List Nat) (G' H' : Hp), Same G G' → DSt G' H' st (m + 9) → v.length = 7 → v.sum ≤ 4 → G' t = some (.tup [.ref l, .ref R, .int ((plant (szOf v)).2.2 : Nat), .int (startN (szOf v) : Nat), .int (endN (szOf v) : Nat)]) → G l = none → R ≠ l → PairsAt G' l (plant (szOf v)).1 → RowsN G' l R (plant (szOf v)).2.1 → Q (.ref t) H'
theorem ok_planted (T : Txt K mg) : FnOk P w K mg base CX0 2 T.f_planted T.d_planted ["_law_state"] spPlanted := by
  have G_take := ok_take (P := P) (w := w) (base := base) T
  refine T.F_planted.ok sc_planted (fun vs H Q E h => ?_) (fun cdv A outer s0 H vs Q E hr h => ?_)
  · obtain ⟨G, st, m, rfl, _⟩ := h
    rfl
  · obtain ⟨G, st, m, rfl, d0, hm, k⟩ := h
    refine ⟨_, (pss_cons (ps_set (i := 1) sc_planted.nd rfl (Or.inl rfl) (pe_lst (pa_cons pe_int (pa_cons pe_int (pa_cons pe_int (pa_cons pe_int (pa_cons pe_int (pa_cons pe_int (pa_cons pe_int pa_nil)))))))))
    (C8.pss_cut (ps_for PassesOwn.never rfl (pi_range1 rfl T.n_range (pa_cons (pe_call G_take (hr.mono (by decide)) rfl T.m_take T.F_take.kp T.b_take .nil pass0 (pa_cons (pv 0) (pa_cons pe_int pa_nil))) pa_nil)) (pg_name (i := 2) sc_planted.nd rfl (Or.inl rfl))
      (pss_cons (ps_set (i := 3) sc_planted.nd rfl (Or.inl rfl) (pe_call G_take (hr.mono (by decide)) rfl T.m_take T.F_take.kp T.b_take .nil pass0 (pa_cons (pv 0) (pa_cons pe_int pa_nil))))
    (pss_one (ps_asg (pe_op op_add (pe_ix ix_list (pv 1) (pv 3) (fun _ _ => rfl)) pe_int) (pg_sub (pv 1) (pv 3) set_list)))))
    (pss_cons (ps_set (i := 4) sc_planted.nd rfl (Or.inl rfl) (pe_lst (pa_cons (pe_tup (pa_cons pe_int (pa_cons pe_int pa_nil))) (pa_cons (pe_tup (pa_cons pe_int (pa_cons pe_int pa_nil))) (pa_cons (pe_tup (pa_cons pe_int (pa_cons pe_int pa_nil))) (pa_cons (pe_tup (pa_cons pe_int (pa_cons pe_int pa_nil))) (pa_cons (pe_tup (pa_cons pe_int (pa_cons pe_int pa_nil))) (pa_cons (pe_tup (pa_cons pe_int (pa_cons pe_int pa_nil))) (pa_cons (pe_tup (pa_cons pe_int (pa_cons pe_int pa_nil))) pa_nil)))))))))
    (pss_cons (ps_set (i := 5) sc_planted.nd rfl (Or.inl rfl) pe_int)
    (pss_cons (ps_set (i := 6) sc_planted.nd rfl (Or.inl rfl) pe_int)
    (pss_cons (ps_set (i := 7) sc_planted.nd rfl (Or.inl rfl) pe_int)
    (C8.pss_cut (ps_if (pt_cmpR op_gt (pe_ix ix_list (pv 1) pe_int (fun _ _ => rfl)) pe_int (nomark _))
      (pss_cons (ps_asg (pe_tup (pa_cons (pv 5) (pa_cons pe_int pa_nil))) (pg_sub (pv 4) pe_int set_list))
    (pss_cons (ps_set (i := 6) sc_planted.nd rfl (Or.inl rfl) (pv 5))
    (pss_one (ps_set (i := 5) sc_planted.nd rfl (Or.inl rfl) (pe_op op_add (pv 5) pe_int)))))
      pss_nil)
    (C8.pss_cut (ps_if (pt_cmpR op_gt (pe_ix ix_list (pv 1) pe_int (fun _ _ => rfl)) pe_int (nomark _))
      (pss_cons (ps_asg (pe_tup (pa_cons pe_int (pa_cons (pv 5) pa_nil))) (pg_sub (pv 4) pe_int set_list))
    (pss_cons (ps_set (i := 7) sc_planted.nd rfl (Or.inl rfl) (pv 5))
    (pss_one (ps_set (i := 5) sc_planted.nd rfl (Or.inl rfl) (pe_op op_add (pv 5) pe_int)))))
      pss_nil)
    (pss_cons (ps_set (i := 8) sc_planted.nd rfl (Or.inl rfl) (pe_lst pa_nil))
    (pss_cons (ps_set (i := 9) sc_planted.nd rfl (Or.inl rfl) (pe_lst pa_nil))
    (C8.pss_cut (ps_for PassesOwn.never rfl (pi_range1 rfl T.n_range (pa_cons pe_int pa_nil)) (pg_name (i := 10) sc_planted.nd rfl (Or.inl rfl))
      (pss_cons (ps_set (i := 11) sc_planted.nd rfl (Or.inl rfl) (pe_lst pa_nil))
    (pss_cons (ps_set (i := 12) sc_planted.nd rfl (Or.inl rfl) (pe_ix ix_tup (pe_ix ix_list (pv 4) (pv 10) (fun _ _ => rfl)) pe_int (fun _ _ => rfl)))
    (C8.pss_cut (ps_for PassesOwn.never rfl (pi_range1 rfl T.n_range (pa_cons (pe_ix ix_list (pv 1) (pv 10) (fun _ _ => rfl)) pa_nil)) (pg_name (i := 2) sc_planted.nd rfl (Or.inl rfl))
      (pss_cons (ps_set (i := 13) sc_planted.nd rfl (Or.inl rfl) (pe_ix ix_tup (pe_ix ix_list (pv 4) (pv 10) (fun _ _ => rfl)) pe_int (fun _ _ => rfl)))
    (C8.pss_cut (ps_if (pt_cmpR op_lt (pv 2) (pe_op op_sub (pe_ix ix_list (pv 1) (pv 10) (fun _ _ => rfl)) pe_int) (nomark _))
      (pss_cons (ps_set (i := 13) sc_planted.nd rfl (Or.inl rfl) (pv 5))
    (pss_one (ps_set (i := 5) sc_planted.nd rfl (Or.inl rfl) (pe_op op_add (pv 5) pe_int))))
      pss_nil)
    (pss_cons (ps_expr (pe_bm PySem.F.plainAttrs_list PySem.F.slot_list_append PySem.F.type_list_append mt_append (pv 11) (pa_cons (pe_callB call_len_seq (by rfl) T.n_len (by decide +kernel) (pa_cons (pv 8) pa_nil)) pa_nil)))
    (pss_cons (ps_expr (pe_bm PySem.F.plainAttrs_list PySem.F.slot_list_append PySem.F.type_list_append mt_append (pv 8) (pa_cons (pe_tup (pa_cons (pv 12) (pa_cons (pv 13) pa_nil))) pa_nil)))
    (pss_one (ps_set (i := 12) sc_planted.nd rfl (Or.inl rfl) (pv 13))))))))
    (pss_one (ps_expr (pe_bm PySem.F.plainAttrs_list PySem.F.slot_list_append PySem.F.type_list_append mt_append (pv 9) (pa_cons (pv 11) pa_nil))))))))
    (pss_one (ps_ret (pe_tup (pa_cons (pv 8) (pa_cons (pv 9) (pa_cons (pv 5) (pa_cons (pv 6) (pa_cons (pv 7) pa_nil))))))))))))))))))), ?_⟩
    refine ⟨by show 7 ≤ sizeLine; decide, fun S nS => ?_⟩
    have d1 := d0.new (o := .lst ((szOf [0, 0, 0, 0, 0, 0, 0]).map fun v : Nat => V.int (v : Int))) nS
    have s1 := same_upd (o := .lst ((szOf [0, 0, 0, 0, 0, 0, 0]).map fun v : Nat => V.int (v : Int))) (d0.free nS)
    have fS := d0.free nS
    have e1 : RowI (upd G S (.lst ((szOf [0, 0, 0, 0, 0, 0, 0]).map fun v : Nat => V.int (v : Int)))) S (szOf [0, 0, 0, 0, 0, 0, 0]) := upd_same
    change DSt _ (upd H S (.lst [V.int 0, V.int 1, V.int 1, V.int 1, V.int 1, V.int 1, V.int 0])) st m at d1
    generalize upd G S (.lst ((szOf [0, 0, 0, 0, 0, 0, 0]).map fun v : Nat => V.int (v : Int))) = G1 at d1 s1 e1
    refine ⟨fun σ H' => ∃ (v : List Nat) (x2 x3 : Option V) (G' : Hp), σ = [some (.ref st), some (.ref S), x2, x3, none, none, none, none, none, none, none, none, none, none] ∧ Same G G' ∧ DSt G' H' st (m + 9) ∧ RowI G' S (szOf v) ∧ v.length = 7 ∧ v.sum ≤ 4, ?_, ?_⟩
    · refine ⟨_, rfl, G1, st, m, 5, rfl, d1, by omega, by decide, by decide, fun r H1 r0 r1 d2 => ?_⟩
      obtain ⟨n, rfl⟩ := Int.eq_ofNat_of_zero_le r0
      refine ⟨_, rfl, by omega, by omega, ?_⟩
      refine for_range (lo := 0) (n := n) (fun i σ H' => ∃ (v : List Nat) (x2 x3 : Option V) (G' : Hp), σ = [some (.ref st), some (.ref S), x2, x3, none, none, none, none, none, none, none, none, none, none] ∧ Same G G' ∧ DSt G' H' st (m + 1 + i) ∧ RowI G' S (szOf v) ∧ v.length = 7 ∧ v.sum = i) ⟨_, none, none, G1, rfl, s1, d2, e1, rfl, rfl⟩ ?_ ?_
      · rintro i σ H2 hi ⟨v, x2, x3, G2, rfl, s2, d3, eS, hv, hvs⟩
        refine ⟨_, rfl, G2, st, m + 1 + i, 7, rfl, d3, by omega, by decide, by decide, fun sp H3 sp0 sp1 d4 => ?_⟩
        obtain ⟨sn, rfl⟩ := Int.eq_ofNat_of_zero_le sp0
        have hsn : sn < 7 := by omega
        have hl := sz_len hv
        have eSH := d4.same _ _ eS
        refine ⟨_, rfl, _, rfl, S, _, _, .int ((szOf v).getD sn 0 : Nat), rfl, rfl, SqL.of eSH, atI_nat (by rw [List.getElem?_map, List.getElem?_eq_getElem (by omega), List.getD_eq_getElem?_getD, List.getElem?_eq_getElem (by omega)]; rfl), ?_⟩
        refine ⟨_, _, rfl, rfl, ?_⟩
        refine ⟨_, rfl, _, rfl, S, _, _, sn, rfl, rfl, eSH, ix_nat (by rw [List.length_map, hl]; exact hsn), ?_⟩
        have eset : ((szOf v).map fun v : Nat => V.int (v : Int)).set sn (V.int (((szOf v).getD sn 0 : Nat) + 1)) = (szOf (v.set sn (v.getD sn 0 + 1))).map fun v : Nat => V.int (v : Int) := by
          rw [← sz_set hv hsn, List.map_set]
          rfl
        rw [eset]
        exact ⟨_, _, _, _, rfl, same_keep fS s2, (d4.put eS).mono (by omega), upd_same, by rw [List.length_set, hv], by rw [sum_set hv hsn, hvs]⟩
      · rintro σ H2 ⟨v, x2, x3, G2, rfl, s2, d3, eS, hv, hvs⟩
        exact ⟨v, _, _, G2, rfl, s2, d3.mono (by omega), eS, hv, by omega⟩
    clear d1 s1 e1
    rintro σ H1 ⟨v, x2, x3, G1, rfl, s1, d1, eS, hv, hvs⟩
    have pE : Paired (PairAt G1) [] [] := .nil
    have fE : ∀ E : Addr, G1 E = none → G E = none := fun E h => s1.free h
    clear nS
    refine ⟨by show 2 ≤ sizeLine; decide, fun t0 n0 => ?_⟩
    have sk := same_upd (o := .tup [V.int (4 : Nat), V.int (0 : Nat)]) (d1.free n0)
    have pE := paired_snoc (show PairAt (upd G1 t0 (.tup [V.int (4 : Nat), V.int (0 : Nat)])) t0 (4, 0) from upd_same) (pE.mono fun q a h => (show PairAt _ q a from sk _ _ h))
    have d1 := d1.new (o := .tup [V.int (4 : Nat), V.int (0 : Nat)]) n0
    have eS := sk _ _ eS
    have s1 := s1.trans sk
    change DSt _ (upd _ t0 (.tup [V.int 4, V.int 0])) st _ at d1
    generalize upd G1 t0 (.tup [V.int (4 : Nat), V.int (0 : Nat)]) = G1 at d1 sk pE eS s1
    clear sk
    refine ⟨by show 2 ≤ sizeLine; decide, fun t1 n1 => ?_⟩
    have sk := same_upd (o := .tup [V.int (0 : Nat), V.int (1 : Nat)]) (d1.free n1)
    have pE := paired_snoc (show PairAt (upd G1 t1 (.tup [V.int (0 : Nat), V.int (1 : Nat)])) t1 (0, 1) from upd_same) (pE.mono fun q a h => (show PairAt _ q a from sk _ _ h))
    have d1 := d1.new (o := .tup [V.int (0 : Nat), V.int (1 : Nat)]) n1
    have eS := sk _ _ eS
    have s1 := s1.trans sk
    change DSt _ (upd _ t1 (.tup [V.int 0, V.int 1])) st _ at d1
    generalize upd G1 t1 (.tup [V.int (0 : Nat), V.int (1 : Nat)]) = G1 at d1 sk pE eS s1
    clear sk
    refine ⟨by show 2 ≤ sizeLine; decide, fun t2 n2 => ?_⟩
    have sk := same_upd (o := .tup [V.int (1 : Nat), V.int (3 : Nat)]) (d1.free n2)
    have pE := paired_snoc (show PairAt (upd G1 t2 (.tup [V.int (1 : Nat), V.int (3 : Nat)])) t2 (1, 3) from upd_same) (pE.mono fun q a h => (show PairAt _ q a from sk _ _ h))
    have d1 := d1.new (o := .tup [V.int (1 : Nat), V.int (3 : Nat)]) n2
    have eS := sk _ _ eS
    have s1 := s1.trans sk
    change DSt _ (upd _ t2 (.tup [V.int 1, V.int 3])) st _ at d1
    generalize upd G1 t2 (.tup [V.int (1 : Nat), V.int (3 : Nat)]) = G1 at d1 sk pE eS s1
    clear sk
    refine ⟨by show 2 ≤ sizeLine; decide, fun t3 n3 => ?_⟩
    have sk := same_upd (o := .tup [V.int (0 : Nat), V.int (2 : Nat)]) (d1.free n3)
    have pE := paired_snoc (show PairAt (upd G1 t3 (.tup [V.int (0 : Nat), V.int (2 : Nat)])) t3 (0, 2) from upd_same) (pE.mono fun q a h => (show PairAt _ q a from sk _ _ h))
    have d1 := d1.new (o := .tup [V.int (0 : Nat), V.int (2 : Nat)]) n3
    have eS := sk _ _ eS
    have s1 := s1.trans sk
    change DSt _ (upd _ t3 (.tup [V.int 0, V.int 2])) st _ at d1
    generalize upd G1 t3 (.tup [V.int (0 : Nat), V.int (2 : Nat)]) = G1 at d1 sk pE eS s1
    clear sk
    refine ⟨by show 2 ≤ sizeLine; decide, fun t4 n4 => ?_⟩
    have sk := same_upd (o := .tup [V.int (2 : Nat), V.int (3 : Nat)]) (d1.free n4)
    have pE := paired_snoc (show PairAt (upd G1 t4 (.tup [V.int (2 : Nat), V.int (3 : Nat)])) t4 (2, 3) from upd_same) (pE.mono fun q a h => (show PairAt _ q a from sk _ _ h))
    have d1 := d1.new (o := .tup [V.int (2 : Nat), V.int (3 : Nat)]) n4
    have eS := sk _ _ eS
    have s1 := s1.trans sk
    change DSt _ (upd _ t4 (.tup [V.int 2, V.int 3])) st _ at d1
    generalize upd G1 t4 (.tup [V.int (2 : Nat), V.int (3 : Nat)]) = G1 at d1 sk pE eS s1
    clear sk
    refine ⟨by show 2 ≤ sizeLine; decide, fun t5 n5 => ?_⟩
    have sk := same_upd (o := .tup [V.int (1 : Nat), V.int (2 : Nat)]) (d1.free n5)
    have pE := paired_snoc (show PairAt (upd G1 t5 (.tup [V.int (1 : Nat), V.int (2 : Nat)])) t5 (1, 2) from upd_same) (pE.mono fun q a h => (show PairAt _ q a from sk _ _ h))
    have d1 := d1.new (o := .tup [V.int (1 : Nat), V.int (2 : Nat)]) n5
    have eS := sk _ _ eS
    have s1 := s1.trans sk
    change DSt _ (upd _ t5 (.tup [V.int 1, V.int 2])) st _ at d1
    generalize upd G1 t5 (.tup [V.int (1 : Nat), V.int (2 : Nat)]) = G1 at d1 sk pE eS s1
    clear sk
    refine ⟨by show 2 ≤ sizeLine; decide, fun t6 n6 => ?_⟩
    have sk := same_upd (o := .tup [V.int (3 : Nat), V.int (5 : Nat)]) (d1.free n6)
    have pE := paired_snoc (show PairAt (upd G1 t6 (.tup [V.int (3 : Nat), V.int (5 : Nat)])) t6 (3, 5) from upd_same) (pE.mono fun q a h => (show PairAt _ q a from sk _ _ h))
    have d1 := d1.new (o := .tup [V.int (3 : Nat), V.int (5 : Nat)]) n6
    have eS := sk _ _ eS
    have s1 := s1.trans sk
    change DSt _ (upd _ t6 (.tup [V.int 3, V.int 5])) st _ at d1
    generalize upd G1 t6 (.tup [V.int (3 : Nat), V.int (5 : Nat)]) = G1 at d1 sk pE eS s1
    clear sk
    refine ⟨by show 7 ≤ sizeLine; decide, fun E nE => ?_⟩
    have gE := d1.free nE
    have sk := same_upd (o := .lst (([t0, t1, t2, t3, t4, t5, t6] : List Addr).map V.ref)) gE
    have hE : PairsAt (upd G1 E (.lst (([t0, t1, t2, t3, t4, t5, t6] : List Addr).map V.ref))) E [(4, 0), (0, 1), (1, 3), (0, 2), (2, 3), (1, 2), (3, 5)] := ⟨_, upd_same, pE.mono fun q a h => sk _ _ h⟩
    have d1 := d1.new (o := .lst (([t0, t1, t2, t3, t4, t5, t6] : List Addr).map V.ref)) nE
    have eS := sk _ _ eS
    have s1' := s1.trans sk
    have fE : G E = none := s1.free gE
    change DSt _ (upd _ E (.lst [V.ref t0, V.ref t1, V.ref t2, V.ref t3, V.ref t4, V.ref t5, V.ref t6])) st _ at d1
    generalize upd G1 E (.lst (([t0, t1, t2, t3, t4, t5, t6] : List Addr).map V.ref)) = G2 at d1 sk hE eS s1'
    clear s1 sk pE
    have SE : S ≠ E := fun z => by
      obtain ⟨qs, e, pq⟩ := hE
      have eS2 : G2 S = _ := eS
      rw [z, e] at eS2
      cases pq
      have hl := congrArg (fun o : Option HO => match o with | some (.lst (V.ref _ :: _)) => true | _ => false) eS2
      cases hv2 : szOf v with
      | nil => have := sz_len hv; rw [hv2] at this; cases this
      | cons x y => rw [hv2] at hl; cases hl
    generalize hsz : szOf v = sz at eS
    have hz7 : sz.length = 7 := by rw [← hsz]; exact sz_len hv
    refine ⟨fun σ H' => ∃ G', σ = [some (.ref st), some (.ref S), x2, x3, some (.ref E), some (.int (cnt1 sz : Nat)), some (.int (startN sz : Nat)), some (.int 3), none, none, none, none, none, none] ∧ Same G G' ∧ DSt G' H' st (m + 9) ∧ RowI G' S sz ∧ PairsAt G' E [(4, 0), (0, 1), (1, 3), (0, 2), (2, 3), (1, 2), (3, 5)], ?_, ?_⟩
    · refine ⟨_, rfl, S, _, 0, .int (sz.getD 0 0 : Nat), rfl, rfl, SqL.of (d1.same _ _ eS), atI_nat (j := 0) (sz_at (H := G) (S := S) (by omega)), _, _, rfl, rfl, _, rfl, ite2 (fun hb => ?_) fun hb => ?_⟩
      · have hb := of_decide_eq_true hb
        refine ⟨_, rfl, by show 2 ≤ sizeLine; decide, fun t nt => ?_⟩
        obtain ⟨qs, gE2, pq⟩ := hE
        obtain ⟨d2, hE2⟩ := ends_set d1 gE2 pq nt 0 4 0
        have Et : E ≠ t := ne_of_none (d1.same _ _ gE2) nt
        refine ⟨_, rfl, E, _, _, 0, rfl, rfl, by rw [upd_ne Et]; exact d1.same _ _ gE2, ix_nat (by rw [List.length_map, pq.length]; decide), ?_⟩
        have hb : 0 < sz.getD 0 0 := by omega
        have ec : cnt1 sz = 5 := if_pos hb
        have es : startN sz = 4 := if_pos hb
        rw [show (List.map V.ref qs).set 0 (V.ref t) = (qs.set 0 t).map V.ref by rw [List.map_set]]
        have gS2 : (upd (upd G2 t (.tup [.int ((4 : Nat) : Int), .int ((0 : Nat) : Int)])) E (.lst ((qs.set 0 t).map V.ref))) S = some (.lst (sz.map fun v : Nat => V.int (v : Int))) := by
          rw [upd_ne SE]
          exact same_upd (d1.free nt) _ _ eS
        refine ⟨_, rfl, _, rfl, _, _, rfl, rfl, _, ?_, same_keep fE (s1'.trans (same_upd (d1.free nt))), d2, gS2, hE2⟩
        rw [ec, es]
        rfl
      · have hb : ¬ 0 < sz.getD 0 0 := fun z => hb (decide_eq_true (by omega))
        have ec : cnt1 sz = 4 := if_neg hb
        have es : startN sz = 0 := if_neg hb
        refine ⟨G2, ?_, s1', d1, eS, hE⟩
        rw [ec, es]
        rfl
    clear d1 s1' eS hE gE
    rintro σ H2 ⟨G2, rfl, s2, d2, eS, hE⟩
    refine ⟨fun σ H' => ∃ G', σ = [some (.ref st), some (.ref S), x2, x3, some (.ref E), some (.int (cnt2 sz : Nat)), some (.int (startN sz : Nat)), some (.int (endN sz : Nat)), none, none, none, none, none, none] ∧ Same G G' ∧ DSt G' H' st (m + 9) ∧ RowI G' S sz ∧ PairsAt G' E (endsN sz), ?_, ?_⟩
    · refine ⟨_, rfl, S, _, 6, .int (sz.getD 6 0 : Nat), rfl, rfl, SqL.of (d2.same _ _ eS), atI_nat (j := 6) (sz_at (H := G) (S := S) (by omega)), _, _, rfl, rfl, _, rfl, ite2 (fun hb => ?_) fun hb => ?_⟩
      · have hb := of_decide_eq_true hb
        refine ⟨_, rfl, by show 2 ≤ sizeLine; decide, fun t nt => ?_⟩
        obtain ⟨qs, gE2, pq⟩ := hE
        obtain ⟨d3, hE2⟩ := ends_set d2 gE2 pq nt 6 3 (cnt1 sz)
        have Et : E ≠ t := ne_of_none (d2.same _ _ gE2) nt
        refine ⟨_, rfl, E, _, _, 6, rfl, rfl, by rw [upd_ne Et]; exact d2.same _ _ gE2, ix_nat (by rw [List.length_map, pq.length]; decide), ?_⟩
        have hb : 0 < sz.getD 6 0 := by omega
        have ec : cnt2 sz = cnt1 sz + 1 := if_pos hb
        have es : endN sz = cnt1 sz := if_pos hb
        have ee : endsN sz = [(4, 0), (0, 1), (1, 3), (0, 2), (2, 3), (1, 2), (3, cnt1 sz)] := by
          unfold endsN
          rw [if_pos hb]
          rfl
        rw [show (List.map V.ref qs).set 6 (V.ref t) = (qs.set 6 t).map V.ref by rw [List.map_set]]
        have gS2 : (upd (upd G2 t (.tup [.int ((3 : Nat) : Int), .int (cnt1 sz : Int)])) E (.lst ((qs.set 6 t).map V.ref))) S = some (.lst (sz.map fun v : Nat => V.int (v : Int))) := by
          rw [upd_ne SE]
          exact same_upd (d2.free nt) _ _ eS
        refine ⟨_, rfl, _, rfl, _, _, rfl, rfl, _, ?_, same_keep fE (s2.trans (same_upd (d2.free nt))), d3, gS2, ee ▸ hE2⟩
        rw [ec, es]
        rfl
      · have hb : ¬ 0 < sz.getD 6 0 := fun z => hb (decide_eq_true (by omega))
        have ec : cnt2 sz = cnt1 sz := if_neg hb
        have es : endN sz = 3 := if_neg hb
        have ee : endsN sz = [(4, 0), (0, 1), (1, 3), (0, 2), (2, 3), (1, 2), (3, 5)] := by
          unfold endsN
          rw [if_neg hb]
        refine ⟨G2, ?_, s2, d2, eS, ee ▸ hE⟩
        rw [ec, es]
        rfl
    clear d2 s2 eS hE
    rintro σ H3 ⟨G3, rfl, s3, d3, eS, hE⟩
    clear nE SE
    refine ⟨by show 0 ≤ sizeLine; decide, fun l nl => ?_⟩
    have sl := same_upd (o := .lst []) (d3.free nl)
    have hl0 : PairsAt (upd G3 l (.lst [])) l [] := ⟨[], upd_same, .nil⟩
    have fl : G l = none := s3.free (d3.free nl)
    have El : E ≠ l := by
      obtain ⟨_, e, _⟩ := hE
      exact ne_of_none (d3.same _ _ e) nl
    have Sl : S ≠ l := ne_of_none (d3.same _ _ eS) nl
    have d4 := d3.new (o := .lst []) nl
    have eS := sl _ _ eS
    have hE := hE.on sl
    have s4 := s3.trans sl
    generalize upd G3 l (.lst []) = G4 at d4 sl hl0 eS hE s4
    generalize upd H3 l (.lst []) = H4 at d4 ⊢
    clear d3 s3 sl nl
    refine ⟨by show 0 ≤ sizeLine; decide, fun R nR => ?_⟩
    have sl := same_upd (o := .lst []) (d4.free nR)
    have hR0 : (upd G4 R (.lst [])) R = some (.lst (([] : List Addr).map V.ref)) := upd_same
    have fR : G R = none := s4.free (d4.free nR)
    have ER : E ≠ R := by
      obtain ⟨_, e, _⟩ := hE
      exact ne_of_none (d4.same _ _ e) nR
    have SR : S ≠ R := ne_of_none (d4.same _ _ eS) nR
    have lR : l ≠ R := by
      obtain ⟨_, e, _⟩ := hl0
      exact ne_of_none (d4.same _ _ e) nR
    have d5 := d4.new (o := .lst []) nR
    have w0 : PlW G (upd G4 R (.lst [])) S E l R sz (endsN sz) [] [] [] := ⟨s4.trans sl, fl, fR, lR, Sl, SR, El, ER, sl _ _ eS, hE.on sl, hl0.on sl, hR0, .nil⟩
    generalize upd G4 R (.lst []) = G5 at d5 w0
    generalize upd H4 R (.lst []) = H5 at d5 ⊢
    clear d4 s4 sl nR hR0 hl0 eS hE fl fR El ER Sl SR lR
    have hz5 : ∀ k, sz.getD k 0 ≤ 5 := fun k => by rw [← hsz]; exact sz_le hv hvs k
    have en7 : (endsN sz).length = 7 := rfl
    refine ⟨fun σ H' => ∃ (ps : List (Nat × Nat)) (ls : List Addr) (rows : List (List Nat)) (cnt : Nat) (G' : Hp) (y2 y10 y11 y12 y13 : Option V), σ = [some (.ref st), some (.ref S), y2, x3, some (.ref E), some (.int (cnt : Int)), some (.int (startN sz : Nat)), some (.int (endN sz : Nat)), some (.ref l), some (.ref R), y10, y11, y12, y13] ∧ DSt G' H' st (m + 9) ∧ PlW G G' S E l R sz (endsN sz) ps ls rows ∧ (ps, rows, cnt) = plant sz, ?_, ?_⟩
    · refine ⟨_, rfl, by decide, by decide, ?_⟩
      refine for_range (lo := 0) (n := 7) (fun k σ H' => ∃ (ps : List (Nat × Nat)) (ls : List Addr) (rows : List (List Nat)) (cnt : Nat) (G' : Hp) (y2 y10 y11 y12 y13 : Option V), σ = [some (.ref st), some (.ref S), y2, x3, some (.ref E), some (.int (cnt : Int)), some (.int (startN sz : Nat)), some (.int (endN sz : Nat)), some (.ref l), some (.ref R), y10, y11, y12, y13] ∧ DSt G' H' st (m + 9) ∧ PlW G G' S E l R sz (endsN sz) ps ls rows ∧ rowsGo ((sz.zip (endsN sz)).drop k) cnt ps rows = plant sz ∧ ps.length ≤ 5 * k ∧ ls.length = k)
        ⟨[], [], [], cnt2 sz, G5, x2, none, none, none, none, rfl, d5, w0, rfl, by decide, rfl⟩ ?_ ?_
      · rintro k σ H6 hk ⟨ps, ls, rows, cnt, G6, y2, y10, y11, y12, y13, rfl, d6, w6, hgo, hpl, hll⟩
        refine ⟨by show 0 ≤ sizeLine; decide, fun L nL => ?_⟩
        have d7 := d6.new (o := .lst []) nL
        have c7 := PlC.start (H := H6) (st := st) (m := m) w6 (d6.free nL)
        generalize upd G6 L (.lst []) = G7 at d7 c7
        generalize upd H6 L (.lst []) = H7 at d7 ⊢
        clear d6 w6 nL
        obtain ⟨eq, hEl, hEp⟩ := c7.w.hE
        obtain ⟨q, hq⟩ : ∃ q, eq[k]? = some q := ⟨_, List.getElem?_eq_getElem (by rw [hEp.length, en7]; exact hk)⟩
        obtain ⟨e, he, hqe⟩ := pair_at hEp hq
        have hqe : G7 q = some (.tup [.int (e.1 : Int), .int (e.2 : Int)]) := hqe
        have hdrop : (sz.zip (endsN sz)).drop k = (sz.getD k 0, e) :: (sz.zip (endsN sz)).drop (k + 1) := by
          rw [List.drop_eq_getElem_cons (by rw [List.length_zip, hz7, en7]; exact hk), List.getElem_zip]
          congr 1
          rw [List.getD_eq_getElem?_getD, List.getElem?_eq_getElem (by omega)]
          congr 1
          exact (List.getElem?_eq_some_iff.mp he).2
        rw [hdrop] at hgo
        have hgo : rowsGo ((sz.zip (endsN sz)).drop (k + 1)) (rowGo e.2 (sz.getD k 0) e.1 cnt ps []).2.2 (rowGo e.2 (sz.getD k 0) e.1 cnt ps []).1 (rows ++ [(rowGo e.2 (sz.getD k 0) e.1 cnt ps []).2.1]) = plant sz := hgo
        have eqi : (eq.map V.ref)[k]? = some (.ref q) := by rw [List.getElem?_map, hq]; rfl
        refine ⟨_, rfl, _, rfl, E, _, _, .ref q, rfl, rfl, SqL.of (d7.same _ _ hEl), at_of (Int.zero_add _) eqi, q, _, 0, .int (e.1 : Int), rfl, rfl, SqT.of (d7.same _ _ hqe), at0, ?_⟩
        refine ⟨fun σ H' => ∃ (ps : List (Nat × Nat)) (row : List Nat) (cnt : Nat) (G' : Hp) (y2 y12 y13 : Option V), σ = [some (.ref st), some (.ref S), y2, x3, some (.ref E), some (.int (cnt : Int)), some (.int (startN sz : Nat)), some (.int (endN sz : Nat)), some (.ref l), some (.ref R), some (.int (0 + (k : Int))), some (.ref L), y12, y13] ∧ DSt G' H' st (m + 9) ∧ PlC G G' S E l R sz (endsN sz) ps ls rows L row ∧ rowsGo ((sz.zip (endsN sz)).drop (k + 1)) cnt ps (rows ++ [row]) = plant sz ∧ ps.length ≤ 5 * (k + 1), ?_, ?_⟩
        · refine ⟨_, rfl, _, rfl, S, _, _, .int (sz.getD k 0 : Nat), rfl, rfl, SqL.of (d7.same _ _ c7.w.hS), at_of (Int.zero_add _) (sz_at (H := G) (S := S) (by omega)), _, rfl, by omega, by have := hz5 k; omega, ?_⟩
          refine for_range (lo := 0) (n := sz.getD k 0) (fun j σ H' => ∃ (ps2 : List (Nat × Nat)) (row : List Nat) (cnt2 place : Nat) (G' : Hp) (y2 y13 : Option V), σ = [some (.ref st), some (.ref S), y2, x3, some (.ref E), some (.int (cnt2 : Int)), some (.int (startN sz : Nat)), some (.int (endN sz : Nat)), some (.ref l), some (.ref R), some (.int (0 + (k : Int))), some (.ref L), some (.int (place : Int)), y13] ∧ DSt G' H' st (m + 9) ∧ PlC G G' S E l R sz (endsN sz) ps2 ls rows L row ∧ rowGo e.2 (sz.getD k 0 - j) place cnt2 ps2 row = rowGo e.2 (sz.getD k 0) e.1 cnt ps [] ∧ ps2.length ≤ 5 * k + j ∧ row.length = j ∧ G' E = some (.lst (eq.map V.ref)) ∧ G' q = some (.tup [.int (e.1 : Int), .int (e.2 : Int)]))
            ⟨ps, [], cnt, e.1, G7, y2, y13, rfl, d7, c7, rfl, by omega, rfl, hEl, hqe⟩ ?_ ?_
          · rintro j σ H8 hj ⟨ps2, row, cnt2, place, G8, z2, z13, rfl, d8, c8, hg, hp2, hrl, hEl, hqe⟩
            have hz := hz5 k
            refine ⟨_, rfl, _, rfl, E, _, _, .ref q, rfl, rfl, SqL.of (d8.same _ _ hEl), at_of (Int.zero_add _) eqi, q, _, 1, .int (e.2 : Int), rfl, rfl, SqT.of (d8.same _ _ hqe), atI_nat (j := 1) rfl, ?_⟩
            refine ⟨fun σ H' => ∃ (cnt3 hd : Nat), σ = [some (.ref st), some (.ref S), some (.int (0 + (j : Int))), x3, some (.ref E), some (.int (cnt3 : Int)), some (.int (startN sz : Nat)), some (.int (endN sz : Nat)), some (.ref l), some (.ref R), some (.int (0 + (k : Int))), some (.ref L), some (.int (place : Int)), some (.int (hd : Int))] ∧ DSt G8 H' st (m + 9) ∧ rowGo e.2 (sz.getD k 0 - (j + 1)) hd cnt3 (ps2 ++ [(place, hd)]) (row ++ [ps2.length]) = rowGo e.2 (sz.getD k 0) e.1 cnt ps [], ?_, ?_⟩
            · refine ⟨_, rfl, _, rfl, _, rfl, S, _, _, .int (sz.getD k 0 : Nat), rfl, rfl, SqL.of (d8.same _ _ c8.w.hS), at_of (Int.zero_add _) (sz_at (H := G) (S := S) (by omega)), _, _, rfl, rfl, _, _, rfl, rfl, _, rfl, ite2 (fun hb => ?_) fun hb => ?_⟩
              · have hb := of_decide_eq_true hb
                obtain ⟨r, hr⟩ : ∃ r, sz.getD k 0 - j = r + 2 := ⟨sz.getD k 0 - j - 2, by omega⟩
                rw [hr] at hg
                refine ⟨_, rfl, _, rfl, _, _, rfl, rfl, cnt2 + 1, cnt2, rfl, d8, ?_⟩
                rw [show sz.getD k 0 - (j + 1) = r + 1 by omega]
                exact hg
              · have hb : ¬ (0 + (j : Int) < (sz.getD k 0 : Nat) - 1) := fun z => hb (decide_eq_true z)
                have hr : sz.getD k 0 - j = 1 := by omega
                rw [hr] at hg
                refine ⟨cnt2, e.2, rfl, d8, ?_⟩
                rw [show sz.getD k 0 - (j + 1) = 0 by omega]
                exact hg
            clear d8 hg
            rintro σ H9 ⟨cnt3, hd, rfl, d8, hg⟩
            obtain ⟨qs, el, pl⟩ := c8.w.hl
            refine ⟨_, rfl, .inl ⟨rfl, _, SqL.of (d8.same _ _ c8.hL)⟩, _, rfl, l, _, rfl, .inl (SqL.of (d8.same _ _ el)), L, _, _, rfl, rfl, d8.same _ _ c8.hL, small1000 (by rw [List.length_map, hrl]; omega), ?_⟩
            have er : (row.map fun v : Nat => V.int (v : Int)) ++ [V.int ((qs.map V.ref).length : Nat)] = (row ++ [ps2.length]).map fun v : Nat => V.int (v : Int) := by
              rw [List.map_append, List.length_map, pl.length]
              rfl
            rw [er]
            have qL : q ≠ L := fun z => by rw [z, show G8 L = _ from c8.hL] at hqe; cases hqe
            have d9 := d8.put (o := .lst ((row ++ [ps2.length]).map fun v : Nat => V.int (v : Int))) c8.hL
            have c9 := c8.addi (row' := row ++ [ps2.length])
            have hEl : (upd G8 L (.lst ((row ++ [ps2.length]).map fun v : Nat => V.int (v : Int)))) E = some (.lst (eq.map V.ref)) := by rw [upd_ne c8.EL]; exact hEl
            have hqe : (upd G8 L (.lst ((row ++ [ps2.length]).map fun v : Nat => V.int (v : Int)))) q = some (.tup [.int (e.1 : Int), .int (e.2 : Int)]) := by rw [upd_ne qL]; exact hqe
            generalize upd G8 L (.lst ((row ++ [ps2.length]).map fun v : Nat => V.int (v : Int))) = G9 at d9 c9 hEl hqe
            generalize upd H9 L (.lst ((row ++ [ps2.length]).map fun v : Nat => V.int (v : Int))) = H10 at d9 ⊢
            clear d8 c8 el pl er
            obtain ⟨qs, el, pl⟩ := c9.w.hl
            refine ⟨_, rfl, .inl ⟨rfl, _, SqL.of (d9.same _ _ el)⟩, _, rfl, _, rfl, by show 2 ≤ sizeLine; decide, fun t nt => ?_⟩
            have ntG := d9.free nt
            have lt : l ≠ t := ne_of_none (d9.same _ _ el) nt
            have sn := same_upd (o := .tup [.int (place : Int), .int (hd : Int)]) ntG
            have d10 := d9.new (o := .tup [.int (place : Int), .int (hd : Int)]) nt
            have c10 := (c9.on sn).setl (qs' := qs ++ [t]) (paired_snoc (show PairAt _ t (place, hd) from upd_same) (pl.mono fun x y h => sn _ _ h))
            have el2 := sn _ _ el
            have hEl := sn _ _ hEl
            have hqe := sn _ _ hqe
            have ql : q ≠ l := fun z => by rw [z, el2] at hqe; cases hqe
            refine ⟨l, _, _, rfl, rfl, d10.same _ _ el2, small1000 (by rw [List.length_map, pl.length]; omega), ?_⟩
            rw [show qs.map V.ref ++ [V.ref t] = (qs ++ [t]).map V.ref by rw [List.map_append]; rfl]
            exact ⟨_, rfl, ps2 ++ [(place, hd)], row ++ [ps2.length], cnt3, hd, _, _, _, rfl, d10.put el2, c10, hg, by rw [List.length_append]; simp; omega, by rw [List.length_append, hrl]; rfl, by rw [upd_ne c10.w.El]; exact hEl, by rw [upd_ne ql]; exact hqe⟩
          · rintro σ H8 ⟨ps2, row, cnt2, place, G8, z2, z13, rfl, d8, c8, hg, hp2, hrl, _, _⟩
            rw [Nat.sub_self] at hg
            rw [← hg] at hgo
            exact ⟨ps2, row, cnt2, G8, _, _, _, rfl, d8, c8, hgo, by have := hz5 k; omega⟩
        · rintro σ H8 ⟨ps2, row, cnt2, G8, z2, z12, z13, rfl, d8, c8, hgo, hp2⟩
          refine ⟨_, rfl, .inl ⟨rfl, _, SqL.of (d8.same _ _ c8.w.hR)⟩, _, rfl, R, _, _, rfl, rfl, d8.same _ _ c8.w.hR, small1000 (by rw [List.length_map, hll]; omega), ?_⟩
          have d9 := d8.put (o := .lst ((ls ++ [L]).map V.ref)) c8.w.hR
          have w9 := c8.done
          rw [show ls.map V.ref ++ [V.ref L] = (ls ++ [L]).map V.ref by rw [List.map_append]; rfl]
          exact ⟨ps2, ls ++ [L], rows ++ [row], cnt2, _, _, _, _, _, _, rfl, d9, w9, hgo, hp2, by rw [List.length_append, hll]; rfl⟩
      · rintro σ H6 ⟨ps, ls, rows, cnt, G6, y2, y10, y11, y12, y13, rfl, d6, w6, hgo, hpl, hll⟩
        refine ⟨ps, ls, rows, cnt, G6, _, _, _, _, _, rfl, d6, w6, ?_⟩
        rw [← hgo, List.drop_eq_nil_of_le (by rw [List.length_zip, hz7, en7]; decide)]
        rfl
    · rintro σ H6 ⟨ps, ls, rows, cnt, G6, y2, y10, y11, y12, y13, rfl, d6, w6, hgo⟩
      refine ⟨_, rfl, _, rfl, _, rfl, _, rfl, _, rfl, by show 5 ≤ sizeLine; decide, fun t nt => ?_⟩
      have sn := same_upd (o := .tup [.ref l, .ref R, .int (cnt : Int), .int (startN sz : Nat), .int (endN sz : Nat)]) (d6.free nt)
      have w7 := w6.on sn
      refine k t l R v _ _ (w6.sm.trans sn) (d6.new nt) hv hvs ?_ w6.fl w6.lR.symm ?_ ?_
      all_goals rw [hsz, ← hgo]
      · exact upd_same
      · exact w7.hl
      · exact ⟨ls, w7.hR, w7.pr.mono fun _ _ h => ⟨h.1, h.2.1⟩⟩
end

/-! ### the law: two inner places are made one -/
def bothB (rows : List (List Nat)) (c : Nat × Nat) : Bool := decide (1 < (rows.getD c.1 []).length) && decide (1 < (rows.getD c.2 []).length)
theorem getD_mem {α : Type} {l : List α} {i : Nat} {d : α} (h : i < l.length) : l.getD i d ∈ l := by
  rw [List.getD_eq_getElem?_getD, List.getElem?_eq_getElem h]
  exact List.getElem_mem _
def pairD (c : Nat × Nat) : PyData := .tuple [.int (c.1 : Int), .int (c.2 : Int)]
theorem dp_pairs {K : PySem.W.Frag} {H : Hp} : ∀ {us : List Addr} {cs : List (Nat × Nat)}, Paired (PairAt H) us cs → DpAll K H (us.map V.ref) (cs.map pairD)
  | _, _, .nil => .nil
  | _, _, .cons a r => .cons (.tup (SqT.of a) (.cons (.int _) (.cons (.int _) .nil))) (dp_pairs r)
theorem shaped_pairs (cs : List (Nat × Nat)) : SeqAt.shaped (.list (cs.map pairD)) = true := by
  refine shaped_l (n := 1) (by decide) (fun e _ => ?_) fun e _ => ?_
  · simp [pairD, PyData.canLay0, PyData.canLayAll0]
  · simp [pairD, PyData.depth, PyData.depthAll]
section
variable {P : Program} {w : World} {K : PySem.W.Frag} {mg : Str → Option Value} {base : Heap}
def Merges (ps : List (Nat × Nat)) (rows : List (List Nat)) (ps' : List (Nat × Nat)) : Prop := ∃ c ∈ couples, ∃ i j, i < (rows.getD c.1 []).length - 1 ∧ j < (rows.getD c.2 []).length - 1 ∧
  ps' = mergeN ps (ps.getD ((rows.getD c.1 []).getD i 0) (0, 0)).2 (ps.getD ((rows.getD c.2 []).getD j 0) (0, 0)).2
def spMerged : Sp := fun vs H Q _ => ∃ (G : Hp) (st l R : Addr) (m : Nat) (ps : List (Nat × Nat)) (rows : List (List Nat)), vs = [.ref st, .ref l, .ref R] ∧ DSt G H st m ∧ m < 800000 ∧ PairsAt G l ps ∧ RowsN G l R rows ∧ rows.length = 7 ∧ ps.length ≤ 20 ∧ (∀ r ∈ rows, r.length ≤ 50 ∧ ∀ k ∈ r, k < ps.length) ∧
  ∀ (l' : Addr) (ps' : List (Nat × Nat)) (G' H' : Hp), Same G G' → DSt G' H' st (m + 3) → PairsAt G' l' ps' → (l' = l ∧ ps' = ps ∨ G l' = none ∧ Merges ps rows ps') → Q (.ref l') H'
theorem ok_merged (T : Txt K mg) : FnOk P w K mg base CX0 2 T.f_merged T.d_merged ["_law_state", "_law_links", "_law_rows"] spMerged := by
  have G_take := ok_take (P := P) (w := w) (base := base) T
  refine T.F_merged.ok sc_merged (fun vs H Q E h => ?_) (fun cdv A outer s0 H vs Q E hr h => ?_)
  · obtain ⟨G, st, l, R, m, ps, rows, rfl, _⟩ := h
    rfl
  · obtain ⟨G, st, l, R, m, ps, rows, rfl, d1, hm, hl, ⟨ls, eR, pR⟩, h7, h20, hrow, k⟩ := h
    refine ⟨_, (pss_cons (ps_set (i := 3) sc_merged.nd rfl (Or.inl rfl) (pe_lst (pa_cons (pe_tup (pa_cons pe_int (pa_cons pe_int pa_nil))) (pa_cons (pe_tup (pa_cons pe_int (pa_cons pe_int pa_nil))) (pa_cons (pe_tup (pa_cons pe_int (pa_cons pe_int pa_nil))) (pa_cons (pe_tup (pa_cons pe_int (pa_cons pe_int pa_nil))) (pa_cons (pe_tup (pa_cons pe_int (pa_cons pe_int pa_nil))) pa_nil)))))))
    (pss_cons (ps_setLc (i := 3) (own := [("_law_spot", 11)]) (g := gName 11) rfl sc_merged.nd rfl rfl (sw_true rfl rfl rfl (by decide +kernel)) (pi_list (pv 3)) (blkOk_by (N := ["_law_state", "_law_links", "_law_rows", "_law_couples", "_law_one", "_law_two", "_law_old", "_law_new", "_law_told", "_law_tail", "_law_head", "_law_spot"]) (sc := defScope s_merged) (by decide +kernel)) (fun _ _ _ _ _ => pg_name (i := 11) sc_merged.nd rfl (Or.inl rfl)) (fun _ _ _ _ _ => pts_one (PW.pt (pw_and (pt_cmpR op_gt (pe_callB (show CallR _ _ (rLenS K) from call_len_seq) (by rfl) T.n_len (by decide +kernel) (pa_cons (pe_ix (show IxR _ (rIxL K) from ix_list) (pv 2) (pe_ix (show IxR _ (rIxT K) from ix_tup) (pv 11) pe_int (fun _ _ => rfl)) (fun _ _ => rfl)) pa_nil)) pe_int (nomark _)) (pw_and1 (pt_cmpR op_gt (pe_callB (show CallR _ _ (rLenS K) from call_len_seq) (by rfl) T.n_len (by decide +kernel) (pa_cons (pe_ix (show IxR _ (rIxL K) from ix_list) (pv 2) (pe_ix (show IxR _ (rIxT K) from ix_tup) (pv 11) pe_int (fun _ _ => rfl)) (fun _ _ => rfl)) pa_nil)) pe_int (nomark _)))))) (fun _ _ _ _ _ => (pv 11)))
    (pss_cons (ps_if (pt_cmpR (op_eqD hr.units) (pv 3) (pe_lst pa_nil) (nomark _))
      (pss_one (ps_ret (pv 1)))
      pss_nil)
    (pss_cons (ps_asg (pe_ix ix_list (pv 3) (pe_call G_take (hr.mono (by decide)) rfl T.m_take T.F_take.kp T.b_take .nil pass0 (pa_cons (pv 0) (pa_cons (pe_callB call_len_seq (by rfl) T.n_len (by decide +kernel) (pa_cons (pv 3) pa_nil)) pa_nil))) (fun _ _ => rfl)) (pg_tup rfl (pgs_cons (pg_name (i := 4) sc_merged.nd rfl (Or.inl rfl)) (pgs_cons (pg_name (i := 5) sc_merged.nd rfl (Or.inl rfl)) pgs_nil))))
    (pss_cons (ps_set (i := 6) sc_merged.nd rfl (Or.inl rfl) (pe_ix ix_tup (pe_ix ix_list (pv 1) (pe_ix ix_list (pe_ix ix_list (pv 2) (pv 4) (fun _ _ => rfl)) (pe_call G_take (hr.mono (by decide)) rfl T.m_take T.F_take.kp T.b_take .nil pass0 (pa_cons (pv 0) (pa_cons (pe_op op_sub (pe_callB call_len_seq (by rfl) T.n_len (by decide +kernel) (pa_cons (pe_ix ix_list (pv 2) (pv 4) (fun _ _ => rfl)) pa_nil)) pe_int) pa_nil))) (fun _ _ => rfl)) (fun _ _ => rfl)) pe_int (fun _ _ => rfl)))
    (pss_cons (ps_set (i := 7) sc_merged.nd rfl (Or.inl rfl) (pe_ix ix_tup (pe_ix ix_list (pv 1) (pe_ix ix_list (pe_ix ix_list (pv 2) (pv 5) (fun _ _ => rfl)) (pe_call G_take (hr.mono (by decide)) rfl T.m_take T.F_take.kp T.b_take .nil pass0 (pa_cons (pv 0) (pa_cons (pe_op op_sub (pe_callB call_len_seq (by rfl) T.n_len (by decide +kernel) (pa_cons (pe_ix ix_list (pv 2) (pv 5) (fun _ _ => rfl)) pa_nil)) pe_int) pa_nil))) (fun _ _ => rfl)) (fun _ _ => rfl)) pe_int (fun _ _ => rfl)))
    (pss_cons (ps_set (i := 8) sc_merged.nd rfl (Or.inl rfl) (pe_lst pa_nil))
    (C8.pss_cut (ps_for PassesOwn.never rfl (pi_list (pv 1)) (pg_tup rfl (pgs_cons (pg_name (i := 9) sc_merged.nd rfl (Or.inl rfl)) (pgs_cons (pg_name (i := 10) sc_merged.nd rfl (Or.inl rfl)) pgs_nil)))
      (C8.pss_cut (ps_if (pt_cmpR op_eq (pv 9) (pv 6) (nomark _))
      (pss_one (ps_set (i := 9) sc_merged.nd rfl (Or.inl rfl) (pv 7)))
      pss_nil)
    (C8.pss_cut (ps_if (pt_cmpR op_eq (pv 10) (pv 6) (nomark _))
      (pss_one (ps_set (i := 10) sc_merged.nd rfl (Or.inl rfl) (pv 7)))
      pss_nil)
    (pss_one (ps_expr (pe_bm PySem.F.plainAttrs_list PySem.F.slot_list_append PySem.F.type_list_append mt_append (pv 8) (pa_cons (pe_tup (pa_cons (pv 9) (pa_cons (pv 10) pa_nil))) pa_nil)))))))
    (pss_one (ps_ret (pv 8))))))))))), ?_⟩
    have s1 : Same G G := fun _ _ h => h
    have pE : Paired (PairAt G) [] [] := .nil
    refine ⟨by show 2 ≤ sizeLine; decide, fun t0 n0 => ?_⟩
    have sk := same_upd (o := .tup [V.int (1 : Nat), V.int (3 : Nat)]) (d1.free n0)
    have pE := paired_snoc (show PairAt (upd G t0 (.tup [V.int (1 : Nat), V.int (3 : Nat)])) t0 (1, 3) from upd_same) (pE.mono fun q a h => (show PairAt _ q a from sk _ _ h))
    have d1 := d1.new (o := .tup [V.int (1 : Nat), V.int (3 : Nat)]) n0
    have s1 := s1.trans sk
    change DSt _ (upd _ t0 (.tup [V.int 1, V.int 3])) st _ at d1
    generalize upd G t0 (.tup [V.int (1 : Nat), V.int (3 : Nat)]) = G1 at d1 sk pE s1
    clear sk
    refine ⟨by show 2 ≤ sizeLine; decide, fun t1 n1 => ?_⟩
    have sk := same_upd (o := .tup [V.int (2 : Nat), V.int (4 : Nat)]) (d1.free n1)
    have pE := paired_snoc (show PairAt (upd G1 t1 (.tup [V.int (2 : Nat), V.int (4 : Nat)])) t1 (2, 4) from upd_same) (pE.mono fun q a h => (show PairAt _ q a from sk _ _ h))
    have d1 := d1.new (o := .tup [V.int (2 : Nat), V.int (4 : Nat)]) n1
    have s1 := s1.trans sk
    change DSt _ (upd _ t1 (.tup [V.int 2, V.int 4])) st _ at d1
    generalize upd G1 t1 (.tup [V.int (2 : Nat), V.int (4 : Nat)]) = G1 at d1 sk pE s1
    clear sk
    refine ⟨by show 2 ≤ sizeLine; decide, fun t2 n2 => ?_⟩
    have sk := same_upd (o := .tup [V.int (2 : Nat), V.int (5 : Nat)]) (d1.free n2)
    have pE := paired_snoc (show PairAt (upd G1 t2 (.tup [V.int (2 : Nat), V.int (5 : Nat)])) t2 (2, 5) from upd_same) (pE.mono fun q a h => (show PairAt _ q a from sk _ _ h))
    have d1 := d1.new (o := .tup [V.int (2 : Nat), V.int (5 : Nat)]) n2
    have s1 := s1.trans sk
    change DSt _ (upd _ t2 (.tup [V.int 2, V.int 5])) st _ at d1
    generalize upd G1 t2 (.tup [V.int (2 : Nat), V.int (5 : Nat)]) = G1 at d1 sk pE s1
    clear sk
    refine ⟨by show 2 ≤ sizeLine; decide, fun t3 n3 => ?_⟩
    have sk := same_upd (o := .tup [V.int (3 : Nat), V.int (5 : Nat)]) (d1.free n3)
    have pE := paired_snoc (show PairAt (upd G1 t3 (.tup [V.int (3 : Nat), V.int (5 : Nat)])) t3 (3, 5) from upd_same) (pE.mono fun q a h => (show PairAt _ q a from sk _ _ h))
    have d1 := d1.new (o := .tup [V.int (3 : Nat), V.int (5 : Nat)]) n3
    have s1 := s1.trans sk
    change DSt _ (upd _ t3 (.tup [V.int 3, V.int 5])) st _ at d1
    generalize upd G1 t3 (.tup [V.int (3 : Nat), V.int (5 : Nat)]) = G1 at d1 sk pE s1
    clear sk
    refine ⟨by show 2 ≤ sizeLine; decide, fun t4 n4 => ?_⟩
    have sk := same_upd (o := .tup [V.int (3 : Nat), V.int (2 : Nat)]) (d1.free n4)
    have pE := paired_snoc (show PairAt (upd G1 t4 (.tup [V.int (3 : Nat), V.int (2 : Nat)])) t4 (3, 2) from upd_same) (pE.mono fun q a h => (show PairAt _ q a from sk _ _ h))
    have d1 := d1.new (o := .tup [V.int (3 : Nat), V.int (2 : Nat)]) n4
    have s1 := s1.trans sk
    change DSt _ (upd _ t4 (.tup [V.int 3, V.int 2])) st _ at d1
    generalize upd G1 t4 (.tup [V.int (3 : Nat), V.int (2 : Nat)]) = G1 at d1 sk pE s1
    clear sk
    refine ⟨by show 5 ≤ sizeLine; decide, fun C nC => ?_⟩
    have sk := same_upd (o := .lst (([t0, t1, t2, t3, t4] : List Addr).map V.ref)) (d1.free nC)
    have eC : (upd G1 C (.lst (([t0, t1, t2, t3, t4] : List Addr).map V.ref))) C = some (.lst (([t0, t1, t2, t3, t4] : List Addr).map V.ref)) := upd_same
    have pC : Paired (PairAt (upd G1 C (.lst (([t0, t1, t2, t3, t4] : List Addr).map V.ref)))) [t0, t1, t2, t3, t4] couples := pE.mono fun q a h => sk _ _ h
    have d1 := d1.new (o := .lst (([t0, t1, t2, t3, t4] : List Addr).map V.ref)) nC
    have s1 := s1.trans sk
    change DSt _ (upd _ C (.lst [V.ref t0, V.ref t1, V.ref t2, V.ref t3, V.ref t4])) st _ at d1
    generalize upd G1 C (.lst (([t0, t1, t2, t3, t4] : List Addr).map V.ref)) = G1 at d1 eC pC s1
    generalize ([t0, t1, t2, t3, t4] : List Addr) = cq at eC pC
    clear sk pE n0 n1 n2 n3 n4
    generalize upd (upd (upd (upd (upd (upd H t0 _) t1 _) t2 _) t3 _) t4 _) C _ = H1 at d1 ⊢
    have atR : ∀ {i : Nat}, i < 7 → ∃ L, ls[i]? = some L ∧ G L = some (.lst ((rows.getD i []).map fun v : Nat => V.int (v : Int))) := fun {i} hi => by
      obtain ⟨L, hL⟩ : ∃ L, ls[i]? = some L := ⟨_, List.getElem?_eq_getElem (by rw [pR.length, h7]; exact hi)⟩
      obtain ⟨r, hr, e⟩ := pair_at pR hL
      refine ⟨L, hL, ?_⟩
      rw [getD_of hr]
      exact e.1
    have eRH : Same G H1 → H1 R = some (.lst (ls.map V.ref)) := fun s => s _ _ eR
    have c7 : ∀ c ∈ couples, c.1 < 7 ∧ c.2 < 7 := by decide
    refine ⟨_, rfl, C, rfl, ⟨_, SqL.of (d1.same _ _ eC)⟩, fun D nD => ?_⟩
    refine lc_list (K := K) (a := C) (xs := cq.map V.ref) (fun m H' => ∃ us : List Addr, H' = upd H1 D (.lst (us.map V.ref)) ∧ Paired (PairAt G1) us ((couples.take m).filter (bothB rows))) ⟨[], rfl, .nil⟩ (fun m H' _ e => by obtain ⟨us, rfl, _⟩ := e; exact SqL.of (by rw [upd_ne (ne_of_none (d1.same _ _ eC) nD)]; exact d1.same _ _ eC)) ?_ ?_
    · rintro i y H2 hi ⟨us, rfl, pu⟩
      rw [List.getElem?_map] at hi
      cases hq2 : cq[i]? with
      | none => rw [hq2] at hi; cases hi
      | some a =>
        rw [hq2] at hi
        obtain rfl := Option.some.inj hi
        obtain ⟨c, hc, ea⟩ := pair_at pC hq2
        have ea' : G1 a = some (.tup [.int (c.1 : Int), .int (c.2 : Int)]) := ea
        obtain ⟨h1, h2⟩ := c7 c (List.mem_of_getElem? hc)
        have sx : Same G1 (upd H1 D (.lst (us.map V.ref))) := d1.same.trans (same_upd nD)
        have sx0 := s1.trans sx
        obtain ⟨M1, eL1, hL1⟩ := atR h1
        obtain ⟨M2, eL2, hL2⟩ := atR h2
        have hul : us.length ≤ 5 := by
          rw [pu.length]
          exact Nat.le_trans (List.length_filter_le _ _) (by rw [List.length_take]; exact Nat.min_le_right _ _)
        refine ⟨rfl, _, rfl, _, rfl, a, _, 0, .int (c.1 : Int), rfl, rfl, SqT.of (sx _ _ ea'), at0, R, _, _, .ref M1, rfl, rfl, SqL.of (sx0 _ _ eR), atI_nat (by rw [List.getElem?_map, eL1]; rfl), M1, _, rfl, .inl (SqL.of (sx0 _ _ hL1)), ?_⟩
        have elen : ∀ {k : Nat}, ((rows.getD k []).map fun v : Nat => V.int (v : Int)).length = (rows.getD k []).length := List.length_map _
        have fin : bothB rows c = false → ∃ us', upd H1 D (.lst (us.map V.ref)) = upd H1 D (.lst (us'.map V.ref)) ∧ Paired (PairAt G1) us' ((couples.take (i + 1)).filter (bothB rows)) := fun hf => ⟨us, rfl, by rw [take_more hc, List.filter_append, List.filter_cons_of_neg (by rw [hf]; decide), List.filter_nil, List.append_nil]; exact pu⟩
        refine ⟨_, _, rfl, rfl, _, rfl, ite2 (fun hb => ?_) fun hb => ?_⟩
        · have hb := of_decide_eq_true hb
          rw [elen] at hb
          refine ⟨_, rfl, _, rfl, a, _, 1, .int (c.2 : Int), rfl, rfl, SqT.of (sx _ _ ea'), atI_nat (j := 1) rfl, R, _, _, .ref M2, rfl, rfl, SqL.of (sx0 _ _ eR), atI_nat (by rw [List.getElem?_map, eL2]; rfl), M2, _, rfl, .inl (SqL.of (sx0 _ _ hL2)), _, _, rfl, rfl, _, rfl, ite2 (fun hb2 => ?_) fun hb2 => ?_⟩
          · have hb2 := of_decide_eq_true hb2
            rw [elen] at hb2
            refine ⟨_, rfl, _, upd_same, small1000 (by rw [List.length_map]; omega), us ++ [a], ?_, ?_⟩
            · rw [List.map_append]
              funext x
              by_cases ec : x = D
              · rw [ec, upd_same, upd_same]; rfl
              · rw [upd_ne ec, upd_ne ec, upd_ne ec]
            · have hf : bothB rows c = true := by
                unfold bothB
                rw [decide_eq_true (by omega), decide_eq_true (by omega)]
                rfl
              rw [take_more hc, List.filter_append, List.filter_cons_of_pos hf, List.filter_nil]
              exact paired_snoc ea pu
          · refine fin ?_
            unfold bothB
            rw [decide_eq_false (p := 1 < (rows.getD c.2 []).length) (fun z => hb2 (decide_eq_true (by rw [elen]; omega))), Bool.and_false]
        · refine fin ?_
          unfold bothB
          rw [decide_eq_false (p := 1 < (rows.getD c.1 []).length) (fun z => hb (decide_eq_true (by rw [elen]; omega))), Bool.false_and]
    rintro H2 ⟨us, rfl, pu⟩
    rw [List.length_map, pC.length, List.take_length] at pu
    have s2 := same_upd (o := .lst (us.map V.ref)) (d1.free nD)
    have d2 := d1.new (o := .lst (us.map V.ref)) nD
    have eD : (upd G1 D (.lst (us.map V.ref))) D = some (.lst (us.map V.ref)) := upd_same
    have pu : Paired (PairAt (upd G1 D (.lst (us.map V.ref)))) us (couples.filter (bothB rows)) := pu.mono fun a b h => s2 _ _ h
    have s2 := s1.trans s2
    generalize upd G1 D (.lst (us.map V.ref)) = G2 at d2 eD pu s2
    generalize upd H1 D (.lst (us.map V.ref)) = H2 at d2 ⊢
    clear d1 s1 pC eC nD eRH
    have hcs : ∀ c ∈ couples.filter (bothB rows), c ∈ couples ∧ bothB rows c = true := fun c hc => List.mem_filter.mp hc
    have hc5 : (couples.filter (bothB rows)).length ≤ 5 := List.length_filter_le _ _
    generalize couples.filter (bothB rows) = cs at pu hcs hc5
    refine ⟨_, rfl, by show 0 ≤ sizeLine; decide, fun E1 nE => ?_⟩
    have s3 := same_upd (o := .lst []) nE
    have eDH := d2.same _ _ eD
    refine ⟨_, _, .lst (SqL.of (s3 _ _ eDH)) (dp_pairs (pu.mono fun a b h => s3 _ _ (d2.same _ _ h))), dp_txts (zs := []) upd_same, shaped_pairs cs, shaped_nil, _, rfl, ?_⟩
    rw [show PyData.eqv (.list (cs.map pairD)) (.list (List.map PyData.str [])) = decide (cs = []) by cases cs with | nil => simp [PyData.eqv, PyData.eqvAll] | cons x y => simp [PyData.eqv, PyData.eqvAll]]
    have d3 := d2.new (o := .lst []) nE
    have s3 := same_upd (o := .lst []) (d2.free nE)
    have eD := s3 _ _ eD
    have pu := pu.mono fun a b h => (show PairAt (upd G2 E1 (.lst [])) a b from s3 _ _ h)
    have s3 := s2.trans s3
    generalize upd G2 E1 (.lst []) = G3 at d3 eD pu s3
    generalize upd H2 E1 (.lst []) = H3 at d3 ⊢
    clear d2 s2 eDH nE
    by_cases he : cs = []
    · rw [decide_eq_true he]
      refine iteT ⟨_, rfl, ?_⟩
      exact k l ps G3 H3 s3 (d3.mono (by omega)) (hl.on s3) (.inl ⟨rfl, rfl⟩)
    · rw [decide_eq_false he]
      refine iteF ?_
      have hcpos : 0 < cs.length := List.length_pos_iff.mpr he
      refine ⟨_, rfl, _, rfl, _, rfl, D, _, rfl, .inl (SqL.of (d3.same _ _ eD)), G3, st, m, _, rfl, d3, by omega, by rw [List.length_map, pu.length]; omega, Int.lt_of_le_of_lt (b := 100) (by rw [List.length_map, pu.length]; omega) (by decide), fun r H4 r0 r1 d4 => ?_⟩
      obtain ⟨rn, rfl⟩ := Int.eq_ofNat_of_zero_le r0
      rw [List.length_map, pu.length] at r1
      obtain ⟨q, hq⟩ : ∃ q, us[rn]? = some q := ⟨_, List.getElem?_eq_getElem (by rw [pu.length]; omega)⟩
      obtain ⟨c, hc, ec⟩ := pair_at pu hq
      have ec : G3 q = some (.tup [.int (c.1 : Int), .int (c.2 : Int)]) := ec
      obtain ⟨hcm, hcb⟩ := hcs c (List.mem_of_getElem? hc)
      obtain ⟨h1, h2⟩ := c7 c hcm
      unfold bothB at hcb
      rw [Bool.and_eq_true, decide_eq_true_eq, decide_eq_true_eq] at hcb
      refine ⟨D, _, _, .ref q, rfl, rfl, SqL.of (d4.same _ _ eD), atI_nat (by rw [List.getElem?_map, hq]; rfl), q, _, rfl, SqT.of (d4.same _ _ ec), rfl, _, _, rfl, _, _, rfl, rfl, ?_⟩
      clear eD ec pu hq hc hcs hc5 hcpos
      obtain ⟨M1, eL1, hL1⟩ := atR h1
      obtain ⟨M2, eL2, hL2⟩ := atR h2
      obtain ⟨qs, el, pl⟩ := hl
      have elen : ∀ {k : Nat}, ((rows.getD k []).map fun v : Nat => V.int (v : Int)).length = (rows.getD k []).length := List.length_map _
      have rin : ∀ {a i : Nat}, a < 7 → i < (rows.getD a []).length - 1 → ∃ z q, ((rows.getD a []).map fun v : Nat => V.int (v : Int))[i]? = some (V.int (z : Nat)) ∧ z = (rows.getD a []).getD i 0 ∧ qs[z]? = some q ∧ G q = some (.tup [.int ((ps.getD z (0, 0)).1 : Nat), .int ((ps.getD z (0, 0)).2 : Nat)]) := fun {a i} ha hi => by
        have hm : rows.getD a [] ∈ rows := getD_mem (by omega)
        have hz : (rows.getD a []).getD i 0 ∈ rows.getD a [] := getD_mem (by omega)
        have hzp := (hrow _ hm).2 _ hz
        obtain ⟨q, hq⟩ : ∃ q, qs[(rows.getD a []).getD i 0]? = some q := ⟨_, List.getElem?_eq_getElem (by rw [pl.length]; exact hzp)⟩
        obtain ⟨e, he, eq⟩ := pair_at pl hq
        refine ⟨_, q, sz_at (H := G) (S := st) (by omega), rfl, hq, ?_⟩
        rw [getD_of he]
        exact eq
      have few : ∀ {a : Nat}, a < 7 → (rows.getD a []).length ≤ 50 := fun {a} ha => (hrow _ (getD_mem (by omega))).1
      have f1 := few h1
      have f2 := few h2
      have s4 := s3.trans d4.same
      refine ⟨_, rfl, _, rfl, _, rfl, R, _, _, .ref M1, rfl, rfl, SqL.of (s4 _ _ eR), atI_nat (by rw [List.getElem?_map, eL1]; rfl), _, rfl, _, rfl, _, rfl, R, _, _, .ref M1, rfl, rfl, SqL.of (s4 _ _ eR), atI_nat (by rw [List.getElem?_map, eL1]; rfl), M1, _, rfl, .inl (SqL.of (s4 _ _ hL1)), _, _, rfl, rfl, G3, st, _, _, rfl, d4, by omega, by rw [elen]; omega, Int.lt_of_le_of_lt (b := 100) (by rw [elen]; omega) (by decide), fun i H5 i0 i1 d5 => ?_⟩
      obtain ⟨i, rfl⟩ := Int.eq_ofNat_of_zero_le i0
      rw [elen] at i1
      obtain ⟨z1, q1, a1, b1, g1, e1⟩ := rin (a := c.1) (i := i) h1 (by omega)
      have s5 := s3.trans d5.same
      refine ⟨M1, _, _, .int (z1 : Nat), rfl, rfl, SqL.of (s5 _ _ hL1), atI_nat a1, l, _, _, .ref q1, rfl, rfl, SqL.of (s5 _ _ el), atI_nat (by rw [List.getElem?_map, g1]; rfl), q1, _, 1, .int ((ps.getD z1 (0, 0)).2 : Nat), rfl, rfl, SqT.of (s5 _ _ e1), atI_nat (j := 1) rfl, ?_⟩
      refine ⟨_, rfl, _, rfl, _, rfl, R, _, _, .ref M2, rfl, rfl, SqL.of (s5 _ _ eR), atI_nat (by rw [List.getElem?_map, eL2]; rfl), _, rfl, _, rfl, _, rfl, R, _, _, .ref M2, rfl, rfl, SqL.of (s5 _ _ eR), atI_nat (by rw [List.getElem?_map, eL2]; rfl), M2, _, rfl, .inl (SqL.of (s5 _ _ hL2)), _, _, rfl, rfl, G3, st, _, _, rfl, d5, by omega, by rw [elen]; omega, Int.lt_of_le_of_lt (b := 100) (by rw [elen]; omega) (by decide), fun j H6 j0 j1 d6 => ?_⟩
      obtain ⟨j, rfl⟩ := Int.eq_ofNat_of_zero_le j0
      rw [elen] at j1
      obtain ⟨z2, q2, a2, b2, g2, e2⟩ := rin (a := c.2) (i := j) h2 (by omega)
      have s6 := s3.trans d6.same
      refine ⟨M2, _, _, .int (z2 : Nat), rfl, rfl, SqL.of (s6 _ _ hL2), atI_nat a2, l, _, _, .ref q2, rfl, rfl, SqL.of (s6 _ _ el), atI_nat (by rw [List.getElem?_map, g2]; rfl), q2, _, 1, .int ((ps.getD z2 (0, 0)).2 : Nat), rfl, rfl, SqT.of (s6 _ _ e2), atI_nat (j := 1) rfl, ?_⟩
      have hM : Merges ps rows (mergeN ps (ps.getD z1 (0, 0)).2 (ps.getD z2 (0, 0)).2) := ⟨c, hcm, i, j, by omega, by omega, by rw [b1, b2]⟩
      generalize (ps.getD z1 (0, 0)).2 = old at hM ⊢
      generalize (ps.getD z2 (0, 0)).2 = new at hM ⊢
      clear a1 b1 g1 e1 a2 b2 g2 e2 rin hL1 hL2 eL1 eL2 d4 s4 d5 s5
      refine ⟨by show 0 ≤ sizeLine; decide, fun N nN => ?_⟩
      have gN := d6.free nN
      have d7 := d6.new (o := .lst []) nN
      have s7 := s3.trans (same_upd (o := .lst []) gN)
      have eN : (upd G3 N (.lst [])) N = some (.lst (([] : List Addr).map V.ref)) := upd_same
      have fN : G N = none := s3.free gN
      generalize upd G3 N (.lst []) = G7 at d7 s7 eN
      generalize upd H6 N (.lst []) = H7 at d7 ⊢
      clear d6 s6 gN nN
      refine ⟨fun σ H' => ∃ (qs' : List Addr) (G' : Hp) (y9 y10 y11 : Option V), σ = [some (.ref st), some (.ref l), some (.ref R), some (.ref D), some (.int (c.1 : Int)), some (.int (c.2 : Int)), some (.int (old : Int)), some (.int (new : Int)), some (.ref N), y9, y10, y11] ∧ Same G G' ∧ DSt G' H' st (m + 3) ∧ G' N = some (.lst (qs'.map V.ref)) ∧ Paired (PairAt G') qs' (mergeN ps old new), ?_, ?_⟩
      · refine ⟨_, rfl, l, rfl, ⟨_, SqL.of ((s7.trans d7.same) _ _ el)⟩, ?_⟩
        refine for_list (K := K) (a := l) (xs := qs.map V.ref) (fun k σ H' => ∃ (qs' : List Addr) (G' : Hp) (y9 y10 y11 : Option V), σ = [some (.ref st), some (.ref l), some (.ref R), some (.ref D), some (.int (c.1 : Int)), some (.int (c.2 : Int)), some (.int (old : Int)), some (.int (new : Int)), some (.ref N), y9, y10, y11] ∧ Same G G' ∧ DSt G' H' st (m + 3) ∧ G' N = some (.lst (qs'.map V.ref)) ∧ Paired (PairAt G') qs' (mergeN (ps.take k) old new)) ?_ ?_ ?_ ?_
        · exact ⟨[], G7, _, _, _, rfl, s7, d7, eN, .nil⟩
        · rintro k σ H8 hk ⟨qs', G8, y9, y10, y11, rfl, s8, d8, _, _⟩
          exact SqL.of ((s8.trans d8.same) _ _ el)
        · rintro k x σ H8 hk ⟨qs', G8, y9, y10, y11, rfl, s8, d8, eN, pN⟩
          rw [List.getElem?_map] at hk
          cases hq2 : qs[k]? with
          | none => rw [hq2] at hk; cases hk
          | some a =>
            rw [hq2] at hk
            obtain rfl := Option.some.inj hk
            obtain ⟨e, he, ea⟩ := pair_at pl hq2
            have ea : G a = some (.tup [.int (e.1 : Int), .int (e.2 : Int)]) := ea
            refine ⟨a, _, rfl, SqT.of ((s8.trans d8.same) _ _ ea), rfl, _, _, rfl, _, _, rfl, rfl, ?_⟩
            refine ⟨fun σ H' => σ = [some (.ref st), some (.ref l), some (.ref R), some (.ref D), some (.int (c.1 : Int)), some (.int (c.2 : Int)), some (.int (old : Int)), some (.int (new : Int)), some (.ref N), some (.int ((if e.1 = old then new else e.1 : Nat) : Int)), some (.int (e.2 : Int)), y11] ∧ DSt G8 H' st (m + 3), ?_, ?_⟩
            · refine ⟨_, rfl, _, rfl, rfl, _, rfl, ite2 (fun hb => ?_) fun hb => ?_⟩
              · have hb : e.1 = old := by
                  have := V.int.inj (of_decide_eq_true hb)
                  omega
                refine ⟨_, rfl, ?_, d8⟩
                rw [if_pos hb]
                rfl
              · have hb : ¬ e.1 = old := fun z => hb (decide_eq_true (by rw [z]))
                refine ⟨?_, d8⟩
                rw [if_neg hb]
                rfl
            generalize hn1 : (if e.1 = old then new else e.1) = n1
            rintro σ H9 ⟨rfl, d9⟩
            refine ⟨fun σ H' => σ = [some (.ref st), some (.ref l), some (.ref R), some (.ref D), some (.int (c.1 : Int)), some (.int (c.2 : Int)), some (.int (old : Int)), some (.int (new : Int)), some (.ref N), some (.int (n1 : Int)), some (.int ((if e.2 = old then new else e.2 : Nat) : Int)), y11] ∧ DSt G8 H' st (m + 3), ?_, ?_⟩
            · refine ⟨_, rfl, _, rfl, rfl, _, rfl, ite2 (fun hb => ?_) fun hb => ?_⟩
              · have hb : e.2 = old := by
                  have := V.int.inj (of_decide_eq_true hb)
                  omega
                refine ⟨_, rfl, ?_, d9⟩
                rw [if_pos hb]
                rfl
              · have hb : ¬ e.2 = old := fun z => hb (decide_eq_true (by rw [z]))
                refine ⟨?_, d9⟩
                rw [if_neg hb]
            generalize hn2 : (if e.2 = old then new else e.2) = n2
            rintro σ H10 ⟨rfl, d10⟩
            have hql : qs'.length ≤ 20 := by
              rw [pN.length]
              unfold mergeN
              rw [List.length_map, List.length_take]
              omega
            refine ⟨_, rfl, .inl ⟨rfl, _, SqL.of (d10.same _ _ eN)⟩, _, rfl, _, rfl, by show 2 ≤ sizeLine; decide, fun t nt => ?_⟩
            have ntG := d10.free nt
            have sn := same_upd (o := .tup [.int (n1 : Int), .int (n2 : Int)]) ntG
            have d11 := d10.new (o := .tup [.int (n1 : Int), .int (n2 : Int)]) nt
            have eN2 := sn _ _ eN
            have pN2 := paired_snoc (show PairAt (upd G8 t (.tup [.int (n1 : Int), .int (n2 : Int)])) t (n1, n2) from upd_same) (pN.mono fun x y h => sn _ _ h)
            refine ⟨N, _, _, rfl, rfl, d11.same _ _ eN2, small1000 (by rw [List.length_map]; omega), ?_⟩
            rw [show qs'.map V.ref ++ [V.ref t] = (qs' ++ [t]).map V.ref by rw [List.map_append]; rfl]
            refine ⟨qs' ++ [t], _, _, _, _, rfl, same_keep fN (s8.trans sn), d11.put eN2, upd_same, ?_⟩
            obtain ⟨_, e1, e2⟩ := pairs_put (q := N) eN2 pN2
            rw [upd_same] at e1
            have e3 := (List.map_inj_right (f := V.ref) (fun x y e => V.ref.inj e)).mp (HO.lst.inj (Option.some.inj e1))
            rw [← e3] at e2
            have em : mergeN (ps.take k ++ [e]) old new = mergeN (ps.take k) old new ++ [(n1, n2)] := by
              unfold mergeN
              rw [List.map_append, List.map_cons, List.map_nil, hn1, hn2]
            rw [take_more he, em]
            exact e2
        · rintro σ H8 ⟨qs', G8, y9, y10, y11, rfl, s8, d8, eN, pN⟩
          rw [List.length_map, pl.length, List.take_length] at pN
          exact ⟨qs', G8, _, _, _, rfl, s8, d8, eN, pN⟩
      · rintro σ H8 ⟨qs', G8, y9, y10, y11, rfl, s8, d8, eN, pN⟩
        exact ⟨_, rfl, k N _ G8 H8 s8 d8 ⟨qs', eN, pN⟩ (.inr ⟨fN, hM⟩)⟩
end

theorem cut_take (xs : List V) (k : Nat) : cutV xs none (some (k : Int)) = xs.take k := by
  unfold cutV
  rw [HT.sIx_none, HT.sIx_nat, List.drop_zero, Nat.sub_zero]
  by_cases h : k ≤ xs.length
  · rw [Nat.min_eq_left h]
  · rw [Nat.min_eq_right (by omega), List.take_of_length_le (Nat.le_refl _), List.take_of_length_le (by omega)]
def spotWs : List Str := ["s", "t", "p", "q1", "x", "end", "b", "a2"]
def linkWs : List Str := ["a", "b", "c1", "link", "z9", "m", "ab", "a2", "long1", "y"]
instance (z : Str) : Decidable (Wn z) := by unfold Wn; infer_instance
theorem spot_ok : NamesOk spotWs 8 := ⟨rfl, by decide +kernel, by decide +kernel⟩
theorem link_ok : NamesOk linkWs 10 := ⟨rfl, by decide +kernel, by decide +kernel⟩
theorem NamesOk.cut {ws zs : List Str} {n m : Nat} (h : NamesOk ws n) (p : zs.Perm ws) (hm : m ≤ n) : NamesOk (zs.take m) m := by
  have sub := List.take_sublist m zs
  exact ⟨by rw [List.length_take, p.length_eq, h.len]; omega, sub.nodup (p.nodup_iff.mpr h.nd), fun z hz => h.ok z (p.mem_iff.mp (sub.mem hz))⟩

section
variable {P : Program} {w : World} {K : PySem.W.Frag} {mg : Str → Option Value} {base : Heap}
/-- what the law needs of the program's text -/
def spLaw (K : PySem.W.Frag) : Sp := fun vs H Q _ => ∃ (a : Addr) (ns : List Int), vs = [.ref a] ∧ SqL K H a (ns.map V.int) ∧ ns.length ≤ 63 ∧ ∀ H', Q (.bl true) H'
theorem kit_bool {K : PySem.W.Frag} : PySem.W.kitOne K (.type "bool") (.type "bool") = some true := by
  unfold PySem.W.kitOne
  exact if_pos (by decide +kernel)
structure PlanOk (v : List Nat) : Prop where
  fine : Fine (plant (szOf v)).1 (startN (szOf v)) (endN (szOf v))
  pos : 1 ≤ (plant (szOf v)).1.length
  few : (plant (szOf v)).1.length ≤ 9
  pair : pairN (plant (szOf v)).1 (startN (szOf v)) (endN (szOf v)) (plant (szOf v)).2.1 = true
  merges : ∀ ps', Merges (plant (szOf v)).1 (plant (szOf v)).2.1 ps' → Fine ps' (startN (szOf v)) (endN (szOf v)) ∧ 1 ≤ ps'.length ∧ ps'.length ≤ 9 ∧ ps'.length = (plant (szOf v)).1.length
  seven : (plant (szOf v)).2.1.length = 7
  rows : ∀ r ∈ (plant (szOf v)).2.1, r.length ≤ 5 ∧ ∀ k ∈ r, k < (plant (szOf v)).1.length
theorem plan_ok {v : List Nat} (hv : v.length = 7) (hs : v.sum ≤ 4) : PlanOk v := by
  have h := List.all_eq_true.mp all_ok v (vecs_all hv hs)
  unfold allB at h
  dsimp only at h
  rw [Bool.and_eq_true, Bool.and_eq_true, Bool.and_eq_true] at h
  obtain ⟨⟨⟨h1, h2⟩, h3⟩, _⟩ := h
  obtain ⟨f1, f2, f3⟩ := fine_of h1
  have h3' := h3
  unfold pairN at h3
  simp only [Bool.and_eq_true, decide_eq_true_eq] at h3
  obtain ⟨⟨⟨⟨h7, _⟩, hin⟩, _⟩, _⟩ := h3
  refine ⟨f1, f2, f3, h3', fun ps' hm => ?_, h7, fun r hr => ?_⟩
  · obtain ⟨c, hc, i, j, hi, hj, e⟩ := hm
    unfold mergesB at h2
    have h4 := List.all_eq_true.mp (List.all_eq_true.mp (List.all_eq_true.mp h2 c hc) i (List.mem_range.mpr hi)) j (List.mem_range.mpr hj)
    rw [← e] at h4
    obtain ⟨g1, g2, g3⟩ := fine_of h4
    exact ⟨g1, g2, g3, by rw [e]; unfold mergeN; rw [List.length_map]⟩
  · have := List.all_eq_true.mp hin r hr
    rw [Bool.and_eq_true] at this
    exact ⟨of_decide_eq_true this.1, fun k hk => of_decide_eq_true (List.all_eq_true.mp this.2 k hk)⟩
set_option maxHeartbeats 8000000 in
theorem ok_law {f : Addr} {fd : FuncData} (T : Txt K mg) (F : Fun K "law" "law" s_law f fd) : FnOk P w K mg base CX0 102 f fd ["_law_script"] (spLaw K) := by
  have G_start : FnOk P w K mg base CX0 1 T.f_start T.d_start ["_law_script"] (spStart K) := ok_start T
  have G_take : FnOk P w K mg base CX0 1 T.f_take T.d_take ["_law_state", "_law_limit"] spTake := ok_take T
  have G_planted := ok_planted (P := P) (w := w) (base := base) T
  have G_merged := ok_merged (P := P) (w := w) (base := base) T
  have G_shuffled := ok_shuf (P := P) (w := w) (base := base) T
  have G_pair := ok_duep (P := P) (w := w) (base := base) T
  have G_check_pair := ok_pair (P := P) (w := w) (base := base) T
  have G_check_paper := ok_paper (P := P) (w := w) (base := base) T
  have G_changed := ok_chg (P := P) (w := w) (base := base) T
  have G_Network_init := calm_of (ok_net (P := P) (w := w) (base := base) T)
  refine F.ok sc_law (fun vs H Q E h => ?_) (fun cdv A outer s0 H vs Q E hr h => ?_)
  · obtain ⟨S, ns, rfl, _⟩ := h
    rfl
  · obtain ⟨S, ns, rfl, hS, hns, k⟩ := h
    refine ⟨_, (pss_cons (ps_set (i := 1) sc_law.nd rfl (Or.inl rfl) (pe_call G_start (hr.mono (by decide)) rfl T.m_start T.F_start.kp T.b_start .nil pass0 (pa_cons (pv 0) pa_nil)))
    (pss_cons (ps_asg (pe_call G_planted (hr.mono (by decide)) rfl T.m_planted T.F_planted.kp T.b_planted .nil pass0 (pa_cons (pv 1) pa_nil)) (pg_tup rfl (pgs_cons (pg_name (i := 2) sc_law.nd rfl (Or.inr rfl)) (pgs_cons (pg_name (i := 3) sc_law.nd rfl (Or.inl rfl)) (pgs_cons (pg_name (i := 4) sc_law.nd rfl (Or.inl rfl)) (pgs_cons (pg_name (i := 5) sc_law.nd rfl (Or.inl rfl)) (pgs_cons (pg_name (i := 6) sc_law.nd rfl (Or.inl rfl)) pgs_nil)))))))
    (pss_cons (ps_set (i := 7) sc_law.nd rfl (Or.inl rfl) (pe_cmpR op_eq (pe_call G_take (hr.mono (by decide)) rfl T.m_take T.F_take.kp T.b_take .nil pass0 (pa_cons (pv 1) (pa_cons pe_int pa_nil))) pe_int (nomark _)))
    (C8.pss_cut (ps_if (pt_val (pv 7))
      (pss_one (ps_set (i := 2) sc_law.nd rfl (Or.inr rfl) (pe_call G_merged (hr.mono (by decide)) rfl T.m_merged T.F_merged.kp T.b_merged .nil pass0 (pa_cons (pv 1) (pa_cons (pv 2) (pa_cons (pv 3) pa_nil))))))
      pss_nil)
    (C8.pss_cut (ps_if (PW.pt (pw_and (pt_cmpR op_lt (pe_callB call_len_seq (by rfl) T.n_len (by decide +kernel) (pa_cons (pv 2) pa_nil)) pe_int (nomark _)) (pw_and1 (pt_cmpR op_eq (pe_call G_take (hr.mono (by decide)) rfl T.m_take T.F_take.kp T.b_take .nil pass0 (pa_cons (pv 1) (pa_cons pe_int pa_nil))) pe_int (nomark _)))))
      (pss_one (ps_expr (pe_bm PySem.F.plainAttrs_list PySem.F.slot_list_append PySem.F.type_list_append mt_append (pv 2) (pa_cons (pe_ix ix_list (pv 2) (pe_call G_take (hr.mono (by decide)) rfl T.m_take T.F_take.kp T.b_take .nil pass0 (pa_cons (pv 1) (pa_cons (pe_callB call_len_seq (by rfl) T.n_len (by decide +kernel) (pa_cons (pv 2) pa_nil)) pa_nil))) (fun _ _ => rfl)) pa_nil))))
      pss_nil)
    (pss_cons (ps_set (i := 8) sc_law.nd rfl (Or.inr rfl) (pe_call G_shuffled (hr.mono (by decide)) rfl T.m_shuffled T.F_shuffled.kp T.b_shuffled .nil pass0 (pa_cons (pv 1) (pa_cons (pe_lst (pa_cons pe_str (pa_cons pe_str (pa_cons pe_str (pa_cons pe_str (pa_cons pe_str (pa_cons pe_str (pa_cons pe_str (pa_cons pe_str pa_nil))))))))) pa_nil))))
    (pss_cons (ps_set (i := 9) sc_law.nd rfl (Or.inr rfl) (pe_slice sl_list (pe_call G_shuffled (hr.mono (by decide)) rfl T.m_shuffled T.F_shuffled.kp T.b_shuffled .nil pass0 (pa_cons (pv 1) (pa_cons (pe_lst (pa_cons pe_str (pa_cons pe_str (pa_cons pe_str (pa_cons pe_str (pa_cons pe_str (pa_cons pe_str (pa_cons pe_str (pa_cons pe_str (pa_cons pe_str (pa_cons pe_str pa_nil))))))))))) pa_nil))) po_none (po_some (pe_callB call_len_seq (by rfl) T.n_len (by decide +kernel) (pa_cons (pv 2) pa_nil)))))
    (pss_cons (ps_setLc (i := 10) (own := [("_law_k", 16)]) (g := gName 16) (tt := tYes) rfl sc_law.nd rfl rfl (sw_true rfl rfl rfl (by decide +kernel)) (pi_range1 rfl T.n_range (pa_cons (pe_callB call_len_seq (by rfl) T.n_len (by decide +kernel) (pa_cons (pv 2) pa_nil)) pa_nil)) (blkOk_by (N := ["_law_script", "_law_state", "_law_links", "_law_rows", "_law_count", "_law_start_here", "_law_end", "_law_merge", "_law_places_here", "_law_names", "_law_told", "_law_net", "_law_seven", "_law_turn", "_law_due", "_law_actual", "_law_k", "_law_row"]) (sc := defScope s_law) (by decide +kernel)) (fun _ _ _ _ _ => pg_name (i := 16) sc_law.nd rfl (Or.inl rfl)) (fun _ _ _ _ _ => pts_nil) (fun _ _ _ _ _ => (pe_tup (pa_cons (pe_ix (show IxR _ (rIxL K) from ix_list) (pv 9) (pv 16) (fun _ _ => rfl)) (pa_cons (pe_ix (show IxR _ (rIxL K) from ix_list) (pv 8) (pe_ix (show IxR _ (rIxT K) from ix_tup) (pe_ix (show IxR _ (rIxL K) from ix_list) (pv 2) (pv 16) (fun _ _ => rfl)) pe_int (fun _ _ => rfl)) (fun _ _ => rfl)) (pa_cons (pe_ix (show IxR _ (rIxL K) from ix_list) (pv 8) (pe_ix (show IxR _ (rIxT K) from ix_tup) (pe_ix (show IxR _ (rIxL K) from ix_list) (pv 2) (pv 16) (fun _ _ => rfl)) pe_int (fun _ _ => rfl)) (fun _ _ => rfl)) pa_nil))))))
    (pss_cons (ps_set (i := 11) sc_law.nd rfl (Or.inl rfl) (pe_make T.mk_Network G_Network_init (hr.mono (by decide)) rfl T.m_Network T.b_Network_init .nil pass0 (pa_cons (pe_call G_shuffled (hr.mono (by decide)) rfl T.m_shuffled T.F_shuffled.kp T.b_shuffled .nil pass0 (pa_cons (pv 1) (pa_cons (pv 10) pa_nil))) (pa_cons (pe_ix ix_list (pv 8) (pv 5) (fun _ _ => rfl)) (pa_cons (pe_ix ix_list (pv 8) (pv 6) (fun _ _ => rfl)) pa_nil)))))
    (pss_cons (ps_set (i := 12) sc_law.nd rfl (Or.inl rfl) (pe_callTy call_tuple_of (by rfl) T.n_tuple (by decide +kernel) (pa_cons (pe_lc (own := [("_law_row", 17)]) (g := gName 17) (tt := tYes) rfl sc_law.nd (pi_list (pv 3)) (blkOk_by (N := ["_law_script", "_law_state", "_law_links", "_law_rows", "_law_count", "_law_start_here", "_law_end", "_law_merge", "_law_places_here", "_law_names", "_law_told", "_law_net", "_law_seven", "_law_turn", "_law_due", "_law_actual", "_law_k", "_law_row"]) (sc := defScope s_law) (by decide +kernel)) (fun _ _ _ _ _ => pg_name (i := 17) sc_law.nd rfl (Or.inl rfl)) (fun _ _ _ _ _ => pts_nil) (fun _ _ _ _ _ => (pe_callTy (show CallR _ (.type "tuple") (rTupO K) from call_tuple_of) (by rfl) T.n_tuple (by decide +kernel) (pa_cons (pe_lc (own := [("_law_k", 16)]) (g := gName 16) (tt := tYes) rfl sc_law.nd (show PI _ _ _ (iList K _) from (pi_list (pv 17))) (blkOk_in (N := ["_law_script", "_law_state", "_law_links", "_law_rows", "_law_count", "_law_start_here", "_law_end", "_law_merge", "_law_places_here", "_law_names", "_law_told", "_law_net", "_law_seven", "_law_turn", "_law_due", "_law_actual", "_law_k", "_law_row"]) (by decide +kernel)) (fun _ _ _ _ _ => pg_name (i := 16) sc_law.nd rfl (Or.inl rfl)) (fun _ _ _ _ _ => pts_nil) (fun _ _ _ _ _ => (pe_ix (show IxR _ (rIxL K) from ix_list) (pv 9) (pv 16) (fun _ _ => rfl)))) pa_nil)))) pa_nil)))
    (C8.pss_cut (ps_if (PW.pt (pw_and (pt_not (pt_val (pv 7))) (pw_and1 (pt_not (pt_val (pe_call G_pair (hr.mono (by decide)) rfl T.m_pair T.F_pair.kp T.b_pair .nil pass0 (pa_cons (pv 10) (pa_cons (pe_ix ix_list (pv 8) (pv 5) (fun _ _ => rfl)) (pa_cons (pe_ix ix_list (pv 8) (pv 6) (fun _ _ => rfl)) (pa_cons (pv 12) pa_nil))))))))))
      (pss_one (ps_ret pe_bl))
      pss_nil)
    (C8.pss_cut (ps_for PassesOwn.never rfl (pi_range1 rfl T.n_range (pa_cons pe_int pa_nil)) (pg_name (i := 13) sc_law.nd rfl (Or.inl rfl))
      (pss_cons (ps_set (i := 14) sc_law.nd rfl (Or.inl rfl) (pe_call G_pair (hr.mono (by decide)) rfl T.m_pair T.F_pair.kp T.b_pair .nil pass0 (pa_cons (pv 10) (pa_cons (pe_ix ix_list (pv 8) (pv 5) (fun _ _ => rfl)) (pa_cons (pe_ix ix_list (pv 8) (pv 6) (fun _ _ => rfl)) (pa_cons (pv 12) pa_nil))))))
    (pss_cons (ps_set (i := 15) sc_law.nd rfl (Or.inl rfl) (pe_call G_check_pair (hr.mono (by decide)) rfl T.m_check_pair T.F_check_pair.kp T.b_check_pair .nil pass0 (pa_cons (pv 11) (pa_cons (pv 12) pa_nil))))
    (pss_cons (ps_if (PW.pt (pw_or (pt_not (pt_val (pe_callB call_isi (by rfl) T.n_isinstance (by decide +kernel) (pa_cons (pv 15) (pa_cons (pe_bltn (v := .ty "bool") (u := .type "bool") (by rfl) T.n_bool (by decide +kernel) rfl) pa_nil))))) (pw_or (pt_cmpR op_ne (pv 15) (pv 14) (nomark _)) (pw_or1 (pt_cmpR op_ne (pe_call G_check_paper (hr.mono (by decide)) rfl T.m_check_paper T.F_check_paper.kp T.b_check_paper .nil pass0 (pa_cons (pv 11) (pa_cons (pe_tup (pa_cons pe_str (pa_cons (pv 12) pa_nil))) pa_nil))) (pv 14) (nomark _))))))
      (pss_one (ps_ret pe_bl))
      pss_nil)
    (pss_one (ps_set (i := 12) sc_law.nd rfl (Or.inl rfl) (pe_call G_changed (hr.mono (by decide)) rfl T.m_changed T.F_changed.kp T.b_changed .nil pass0 (pa_cons (pv 1) (pa_cons (pv 9) (pa_cons (pv 12) pa_nil))))))))))
    (pss_one (ps_ret (pe_cmpR op_eq (pe_callK0 G_check_pair (hr.mono (by decide)) rfl T.m_check_pair T.F_check_pair.kp T.kb_check_pair_0_pair_network pass0 (pk_cons (pv 12) (pk_cons (pv 11) pk_nil))) (pe_call G_pair (hr.mono (by decide)) rfl T.m_pair T.F_pair.kp T.b_pair .nil pass0 (pa_cons (pv 10) (pa_cons (pe_ix ix_list (pv 8) (pv 5) (fun _ _ => rfl)) (pa_cons (pe_ix ix_list (pv 8) (pv 6) (fun _ _ => rfl)) (pa_cons (pv 12) pa_nil))))) (nomark _)))))))))))))))), ?_⟩
    refine ⟨_, rfl, S, ns, rfl, hS, hns, fun st H1 d1 => ?_⟩
    refine ⟨_, rfl, H, st, 0, rfl, d1, by decide, fun t0 l R v G2 H2 _ d2 hv hvs et0 gl Rl hpl hrw => ?_⟩
    refine ⟨t0, _, rfl, SqT.of (d2.same _ _ et0), rfl, _, _, rfl, _, _, rfl, _, _, rfl, _, _, rfl, _, _, rfl, rfl, ?_⟩
    have po := plan_ok hv hvs
    clear d1 et0 gl hv hvs
    obtain ⟨fine, pos, few, pair, merges, seven, rlen⟩ := po
    generalize startN (szOf v) = sN at *
    generalize endN (szOf v) = eN at *
    generalize (plant (szOf v)).2.2 = cN at *
    generalize (plant (szOf v)).2.1 = rows at *
    generalize (plant (szOf v)).1 = ps0 at *
    clear v
    refine ⟨_, rfl, G2, st, _, 2, rfl, d2, by decide, by decide, by decide, fun r H3 r0 r1 d3 => ?_⟩
    clear d2
    refine ⟨rfl, ?_⟩
    generalize hmg : decide (V.int r = V.int 0) = mrg
    clear hmg
    dsimp only [List.set_cons_zero, List.set_cons_succ]
    refine ⟨fun σ H' => ∃ (ps : List (Nat × Nat)) (l : Addr) (G' : Hp), σ = [some (.ref S), some (.ref st), some (.ref l), some (.ref R), some (.int (cN : Int)), some (.int (sN : Int)), some (.int (eN : Int)), some (.bl mrg), none, none, none, none, none, none, none, none, none, none] ∧ DSt G' H' st 20 ∧ PairsAt G' l ps ∧ R ≠ l ∧ RowsN G' l R rows ∧ Fine ps sN eN ∧ 1 ≤ ps.length ∧ ps.length ≤ 9 ∧ ps.length = ps0.length ∧ (mrg = false → ps = ps0), ?_, ?_⟩
    · refine ⟨_, rfl, mrg, rfl, ite2 (fun hm => ?_) fun hm => ?_⟩
      · refine ⟨_, rfl, _, rfl, _, rfl, G2, st, l, R, _, ps0, rows, rfl, d3, by decide, hpl, hrw, seven, by omega, fun r hr => ⟨by have := (rlen r hr).1; omega, (rlen r hr).2⟩, fun l' ps' G4 H4 s4 d4 hp4 hor => ?_⟩
        have hrw4 := hrw.on s4
        rcases hor with ⟨e1, e2⟩ | ⟨gl', hM⟩
        · subst e1 e2
          exact ⟨_, _, G4, rfl, d4.mono (by decide), hp4, Rl, hrw4, fine, pos, few, rfl, fun _ => rfl⟩
        · obtain ⟨g1, g2, g3, g4⟩ := merges _ hM
          obtain ⟨ls, eR, pR⟩ := hrw
          refine ⟨_, _, G4, rfl, d4.mono (by decide), hp4, (fun z => by rw [z, gl'] at eR; cases eR), ⟨ls, s4 _ _ eR, pR.mono fun a b h => ⟨s4 _ _ h.1, fun z => ?_⟩⟩, g1, g2, g3, g4, fun z => by rw [hm] at z; cases z⟩
          have h1 : G2 a = _ := h.1
          rw [z, gl'] at h1
          cases h1
      · exact ⟨_, _, G2, rfl, d3.mono (by decide), hpl, Rl, hrw, fine, pos, few, rfl, fun _ => rfl⟩
    clear d3 hpl Rl hrw fine pos few merges
    rintro σ H3 ⟨ps, l, G3, rfl, d3, hpl, Rl, hrw, fine, pos, few, hpl0, hps⟩
    refine ⟨fun σ H' => ∃ (ps : List (Nat × Nat)) (G' : Hp), σ = [some (.ref S), some (.ref st), some (.ref l), some (.ref R), some (.int (cN : Int)), some (.int (sN : Int)), some (.int (eN : Int)), some (.bl mrg), none, none, none, none, none, none, none, none, none, none] ∧ DSt G' H' st 22 ∧ PairsAt G' l ps ∧ RowsN G' l R rows ∧ Fine ps sN eN ∧ 1 ≤ ps.length ∧ ps.length ≤ 10 ∧ ps0.length ≤ ps.length ∧ (mrg = false → ∀ k < ps0.length, ps.getD k (0, 0) = ps0.getD k (0, 0)), ?_, ?_⟩
    · obtain ⟨qs, el, pl⟩ := hpl
      have stay : ∀ H', DSt G3 H' st 22 → ∃ (ps : List (Nat × Nat)) (G' : Hp), [some (V.ref S), some (.ref st), some (.ref l), some (.ref R), some (.int (cN : Int)), some (.int (sN : Int)), some (.int (eN : Int)), some (.bl mrg), none, none, none, none, none, none, none, none, none, none] = [some (.ref S), some (.ref st), some (.ref l), some (.ref R), some (.int (cN : Int)), some (.int (sN : Int)), some (.int (eN : Int)), some (.bl mrg), none, none, none, none, none, none, none, none, none, none] ∧ DSt G' H' st 22 ∧ PairsAt G' l ps ∧ RowsN G' l R rows ∧ Fine ps sN eN ∧ 1 ≤ ps.length ∧ ps.length ≤ 10 ∧ ps0.length ≤ ps.length ∧ (mrg = false → ∀ k < ps0.length, ps.getD k (0, 0) = ps0.getD k (0, 0)) := fun H' d => ⟨ps, G3, rfl, d, ⟨qs, el, pl⟩, hrw, fine, pos, by omega, by omega, fun z => by rw [hps z]; exact fun _ _ => rfl⟩
      refine ⟨_, rfl, l, _, rfl, .inl (SqL.of (d3.same _ _ el)), _, _, rfl, rfl, _, rfl, ite2 (fun _ => ?_) fun _ => stay _ (d3.mono (by decide))⟩
      refine ⟨_, rfl, G3, st, _, 2, rfl, d3, by decide, by decide, by decide, fun r H4 r0 r1 d4 => ?_⟩
      refine ⟨rfl, _, rfl, ite2 (fun _ => ?_) fun _ => stay _ (d4.mono (by decide))⟩
      have hql : (qs.map V.ref).length = ps.length := by rw [List.length_map, pl.length]
      refine ⟨_, rfl, .inl ⟨rfl, _, SqL.of (d4.same _ _ el)⟩, _, rfl, _, rfl, _, rfl, l, _, rfl, .inl (SqL.of (d4.same _ _ el)), G3, st, _, _, rfl, d4, by decide, by rw [hql]; omega, Int.lt_of_le_of_lt (b := 100) (by rw [hql]; omega) (by decide), fun kk H5 k0 k1 d5 => ?_⟩
      rw [hql] at k1
      obtain ⟨kn, rfl⟩ := Int.eq_ofNat_of_zero_le k0
      obtain ⟨q, hq⟩ : ∃ q, qs[kn]? = some q := ⟨_, List.getElem?_eq_getElem (by rw [pl.length]; omega)⟩
      obtain ⟨e, he, eq⟩ := pair_at pl hq
      refine ⟨l, _, _, .ref q, rfl, rfl, SqL.of (d5.same _ _ el), atI_nat (by rw [List.getElem?_map, hq]; rfl), l, _, _, rfl, rfl, d5.same _ _ el, small1000 (by rw [hql]; omega), ?_⟩
      rw [show qs.map V.ref ++ [V.ref q] = (qs ++ [q]).map V.ref by rw [List.map_append]; rfl]
      refine ⟨ps ++ [e], _, rfl, (d5.put el).mono (by decide), pairs_put (q := q) el (paired_snoc eq pl), ?_, fine.twice (List.mem_of_getElem? he), by rw [List.length_append]; omega, by rw [List.length_append]; show ps.length + 1 ≤ 10; omega, by rw [List.length_append]; omega, fun z => ?_⟩
      · obtain ⟨ls, eR, pR⟩ := hrw
        exact ⟨ls, by rw [upd_ne Rl]; exact eR, pR.mono fun a b h => ⟨by show upd _ _ _ _ = _; rw [upd_ne h.2]; exact h.1, h.2⟩⟩
      · have e0 := hps z
        subst e0
        refine fun k hk => ?_
        rw [List.getD_eq_getElem?_getD, List.getD_eq_getElem?_getD, List.getElem?_append_left hk]
    clear d3 hpl hrw fine pos few hps Rl hpl0 ps
    rintro σ H4 ⟨ps, G4, rfl, d4, ⟨qs, hl, hpr⟩, ⟨ls, eR, pR⟩, fine, pos, few, lens, hps⟩
    have hql : (qs.map V.ref).length = ps.length := by rw [List.length_map, hpr.length]
    refine ⟨_, rfl, by show 8 ≤ sizeLine; decide, fun W1 nW1 => ?_⟩
    have d1 := d4.new (o := .lst (spotWs.map V.str)) nW1
    have s1 := same_upd (o := .lst (spotWs.map V.str)) (d4.free nW1)
    have e1 : (upd G4 W1 (.lst (spotWs.map V.str))) W1 = some (.lst (spotWs.map V.str)) := upd_same
    change DSt _ (upd H4 W1 (.lst [V.str "s", V.str "t", V.str "p", V.str "q1", V.str "x", V.str "end", V.str "b", V.str "a2"])) st _ at d1
    generalize upd G4 W1 (.lst (spotWs.map V.str)) = G1 at d1 s1 e1
    refine ⟨G1, st, W1, _, _, rfl, d1, by decide, e1, by decide, fun S2 xs H2 nS2 d2 px => ?_⟩
    obtain ⟨ws, pz, rfl⟩ := map_perm_inv px
    have hw : NamesOk ws 8 := by
      have := spot_ok.cut pz (Nat.le_refl 8)
      rwa [List.take_of_length_le (by rw [pz.length_eq]; exact Nat.le_refl _)] at this
    have s2 := s1.trans (same_upd (o := .lst (ws.map V.str)) nS2)
    have hW4 : (upd G1 S2 (.lst (ws.map V.str))) S2 = some (.lst (ws.map V.str)) := upd_same
    have d2 := d2.mono (m' := 30) (by decide)
    generalize upd G1 S2 (.lst (ws.map V.str)) = G2 at d2 s2 hW4
    clear d1 s1 e1 d4 nW1 nS2 px pz
    refine ⟨_, rfl, by show 10 ≤ sizeLine; decide, fun W2 nW2 => ?_⟩
    have d3 := d2.new (o := .lst (linkWs.map V.str)) nW2
    have s3 := same_upd (o := .lst (linkWs.map V.str)) (d2.free nW2)
    have e3 : (upd G2 W2 (.lst (linkWs.map V.str))) W2 = some (.lst (linkWs.map V.str)) := upd_same
    have hW4 := s3 _ _ hW4
    have s3 := s2.trans s3
    change DSt _ (upd H2 W2 (.lst [V.str "a", V.str "b", V.str "c1", V.str "link", V.str "z9", V.str "m", V.str "ab", V.str "a2", V.str "long1", V.str "y"])) st _ at d3
    generalize upd G2 W2 (.lst (linkWs.map V.str)) = G3 at d3 s3 e3 hW4
    refine ⟨G3, st, W2, _, _, rfl, d3, by decide, e3, by decide, fun S3 xs2 H5 nS3 d5 px2 => ?_⟩
    obtain ⟨zs2, pz2, rfl⟩ := map_perm_inv px2
    have s5 := same_upd (o := .lst (zs2.map V.str)) nS3
    have hW5 := s5 _ _ hW4
    have s5 := s3.trans s5
    have eS3 : (upd G3 S3 (.lst (zs2.map V.str))) S3 = some (.lst (zs2.map V.str)) := upd_same
    have d5 := d5.mono (m' := 40) (by decide)
    generalize upd G3 S3 (.lst (zs2.map V.str)) = G5 at d5 s5 eS3 hW5
    clear d2 d3 s2 s3 e3 hW4 nW2 nS3 px2
    refine ⟨_, rfl, l, _, rfl, .inl (SqL.of (d5.same _ _ (s5 _ _ hl))), _, rfl, S3, _, rfl, SqL.of (d5.same _ _ eS3), fun L nL => ?_⟩
    rw [hql, cut_take, ← List.map_take]
    have hls : NamesOk (zs2.take ps.length) ps.length := link_ok.cut pz2 few
    generalize zs2.take ps.length = ns2 at hls ⊢
    have d6 := d5.new (o := .lst (ns2.map V.str)) nL
    have s6 := same_upd (o := .lst (ns2.map V.str)) (d5.free nL)
    have hL4 : (upd G5 L (.lst (ns2.map V.str))) L = some (.lst (ns2.map V.str)) := upd_same
    have hW4 := s6 _ _ hW5
    have s6 := s5.trans s6
    generalize upd G5 L (.lst (ns2.map V.str)) = G6 at d6 s6 hL4 hW4
    generalize upd H5 L (.lst (ns2.map V.str)) = H6 at d6 ⊢
    clear d5 s5 hW5 eS3 nL pz2
    have hlen : ns2.length = ps.length := hls.len
    have hl4 := s6 _ _ hl
    have hpr4 : Paired (PairAt G6) qs ps := hpr.mono fun _ _ e => s6 _ _ e
    dsimp only [List.set_cons_zero, List.set_cons_succ]
    refine ⟨_, rfl, l, _, rfl, .inl (SqL.of (d6.same _ _ hl4)), _, rfl, by omega, by rw [hql]; omega, fun D hD => ?_⟩
    have nDG := d6.free hD
    refine lc_range (lo := 0) (n := (qs.map V.ref).length) (fun i H' => ∃ Gi rs, Same G6 Gi ∧ DSt Gi H' st 40 ∧ Gi D = some (.lst (rs.map V.ref)) ∧ Paired (RowT Gi) rs ((List.range i).map (rowAt ns2 ws ps))) ⟨_, [], same_upd nDG, d6.new hD, upd_same, .nil⟩ ?_ ?_
    · rintro i H' hi ⟨Gi, rs, si, di, hDi, hri⟩
      rw [hql] at hi
      obtain ⟨q, hq⟩ : ∃ q, qs[i]? = some q := ⟨_, List.getElem?_eq_getElem (by rw [hpr.length]; exact hi)⟩
      obtain ⟨p, hp, hqp⟩ := pair_at hpr4 hq
      have hqp' : G6 q = some (.tup [.int (p.1 : Int), .int (p.2 : Int)]) := hqp
      have hpm := fine.lt p (List.mem_of_getElem? hp)
      have hp1 : p.1 < ws.length := by rw [hw.len]; exact hpm.1
      have hp2 : p.2 < ws.length := by rw [hw.len]; exact hpm.2
      have up : ∀ {c : Addr} {u : HO}, G6 c = some u → H' c = some u := fun hc => di.same _ _ (si _ _ hc)
      have idx : (0 + (i : Int)) = (i : Int) := Int.zero_add _
      have aL : atI (ns2.map V.str) (0 + (i : Int)) = some (V.str (ns2.getD i "")) := by rw [idx]; exact atI_nat (by rw [List.getElem?_map, List.getElem?_eq_getElem (show i < ns2.length by omega), getD_of (List.getElem?_eq_getElem (show i < ns2.length by omega))]; rfl)
      have aP : atI (qs.map V.ref) (0 + (i : Int)) = some (V.ref q) := by rw [idx]; exact atI_nat (by rw [List.getElem?_map, hq]; rfl)
      have aW : ∀ {v : Nat}, v < ws.length → atI (ws.map V.str) (v : Int) = some (V.str (ws.getD v "")) := fun {v} hv => atI_nat (by rw [List.getElem?_map, List.getElem?_eq_getElem hv, getD_of (List.getElem?_eq_getElem hv)]; rfl)
      refine ⟨rfl, _, rfl, _, rfl, L, _, _, _, rfl, rfl, SqL.of (up hL4), aL, ?_⟩
      refine ⟨_, rfl, _, rfl, _, rfl, l, _, _, _, rfl, rfl, SqL.of (up hl4), aP, q, _, _, .int (p.1 : Int), rfl, rfl, SqT.of (up hqp'), rfl, S2, _, _, _, rfl, rfl, SqL.of (up hW4), aW hp1, ?_⟩
      refine ⟨_, rfl, _, rfl, _, rfl, l, _, _, _, rfl, rfl, SqL.of (up hl4), aP, q, _, _, .int (p.2 : Int), rfl, rfl, SqT.of (up hqp'), rfl, S2, _, _, _, rfl, rfl, SqL.of (up hW4), aW hp2, ?_⟩
      refine ⟨by show 3 ≤ sizeLine; decide, fun U nU => ?_⟩
      have er : rowAt ns2 ws ps i = (ns2.getD i "", ws.getD p.1 "", ws.getD p.2 "") := by unfold rowAt; rw [getD_of hp]
      obtain ⟨d5, h5, p5⟩ := rows_put (e := rowAt ns2 ws ps i) di hDi hri nU
      rw [er] at d5 h5 p5
      have hrl : (rs.map V.ref).length ≤ 10 := by rw [List.length_map, hri.length, List.length_map, List.length_range]; omega
      refine ⟨_, same_upd nU _ _ (di.same _ _ hDi), small1000 (by omega), _, rs ++ [U], ?_, d5, h5, ?_⟩
      · refine fun c o hc => ?_
        have hci := si _ _ hc
        rw [upd_ne (fun z => by rw [z, nDG] at hc; cases hc), upd_ne (ne_of_none hci (di.free nU))]
        exact hci
      · rw [List.range_succ, List.map_append, List.map_singleton, er]
        exact p5
    rintro H5 ⟨G5, rs, s56, d5, hD5, hr5⟩
    rw [hql] at hr5
    have hr5 : Paired (RowT G5) rs (rowsOf ns2 ws ps) := hr5
    have hrl : (rs.map V.ref).length = ps.length := by rw [List.length_map, hr5.length]; unfold rowsOf; rw [List.length_map, List.length_range]
    have nok := fine_rows fine hw hlen hls.nd hls.ok pos
    have s5 := s6.trans s56
    have hW5 := s56 _ _ hW4
    have hL5 := s56 _ _ hL4
    clear s6 s56 d6 hL4 hW4 hpr4 nDG hD
    have aW : ∀ {v : Nat}, v < 8 → atI (ws.map V.str) (v : Int) = some (V.str (ws.getD v "")) := fun {v} hv => atI_nat (by rw [List.getElem?_map, List.getElem?_eq_getElem (by rw [hw.len]; exact hv), getD_of (List.getElem?_eq_getElem (by rw [hw.len]; exact hv))]; rfl)
    dsimp only [List.set_cons_zero, List.set_cons_succ]
    refine ⟨_, rfl, _, rfl, G5, st, D, _, _, rfl, d5, by decide, hD5, by omega, fun N2 ys H6 nN2 d6 pys => ?_⟩
    obtain ⟨zs, pzs, rfl⟩ := map_perm_inv pys
    obtain ⟨es, pes, hes⟩ := paired_perm pzs hr5
    have s56 : Same G5 (upd G5 N2 (.lst (zs.map V.ref))) := same_upd nN2
    have rowsN : RowsL (upd G5 N2 (.lst (zs.map V.ref))) N2 es := ⟨zs, upd_same, paired_on (fun _ _ e => s56 _ _ e) hes⟩
    have rowsD : RowsL (upd G5 N2 (.lst (zs.map V.ref))) D (rowsOf ns2 ws ps) := ⟨rs, s56 _ _ hD5, paired_on (fun _ _ e => s56 _ _ e) hr5⟩
    have hW6 := s56 _ _ hW5
    have hL6 := s56 _ _ hL5
    have s6 := s5.trans s56
    have nok2 := nok.perm pes
    have h10 : es.length ≤ 10 := by rw [pes.length_eq]; unfold rowsOf; rw [List.length_map, List.length_range]; exact few
    have d6 := d6.mono (m' := 50) (by omega)
    generalize upd G5 N2 (.lst (zs.map V.ref)) = G6 at d6 s6 rowsN rowsD hW6 hL6
    clear d5 s5 s56 hD5 hr5 hes pys pzs hW5 hL5 nN2 hrl
    refine ⟨_, rfl, _, rfl, S2, _, _, _, rfl, rfl, SqL.of (d6.same _ _ hW6), aW fine.hs, _, rfl, _, rfl, S2, _, _, _, rfl, rfl, SqL.of (d6.same _ _ hW6), aW fine.ht, fun n dn np ndp nep => ?_⟩
    refine net_step d6 rowsN nok2 h10 np ndp nep fun ts qp G7 H7 pm srt hpl s67 d7 hN _ => ⟨rfl, ?_⟩
    have rowsD := rowsD.on s67
    have hW7 := s67 _ _ hW6
    have hL7 := s67 _ _ hL6
    have eR7 := s67 _ _ (s6 _ _ eR)
    have pR7 : Paired (RowI G7) ls rows := pR.mono fun _ _ e => s67 _ _ (s6 _ _ e.1)
    clear d6 s6 s67 rowsN hW6 hL6 np ndp nep hl hpr eR pR hl4
    dsimp only [List.set_cons_zero, List.set_cons_succ]
    generalize hnm : (fun k : Nat => ns2.getD k "") = nm
    have aN : ∀ {k : Nat}, k < ps.length → atI (ns2.map V.str) (k : Int) = some (V.str (nm k)) := fun {k} hk => by
      have e : nm k = ns2.getD k "" := by rw [← hnm]
      rw [e]
      exact atI_nat (by rw [List.getElem?_map, List.getElem?_eq_getElem (by omega), getD_of (List.getElem?_eq_getElem (by omega))]; rfl)
    refine ⟨_, rfl, R, rfl, ⟨_, SqL.of (d7.same _ _ eR7)⟩, fun D2 nD2 => ?_⟩
    refine lc_list (K := K) (a := R) (xs := ls.map V.ref) (fun j H' => Same H7 H' ∧ ∃ ts : List Addr, H' D2 = some (.lst (ts.map V.ref)) ∧ Paired (fun a b => NamesT H' a b ∧ H7 a = none) ts ((rows.map fun r => r.map nm).take j)) ⟨same_upd nD2, [], upd_same, .nil⟩ (fun j H' _ h => SqL.of (h.1 _ _ (d7.same _ _ eR7))) ?_ ?_
    · rintro j x H8 hj ⟨s8, ts8, eD, pt⟩
      rw [List.getElem?_map] at hj
      cases hq : ls[j]? with
      | none => rw [hq] at hj; cases hj
      | some M =>
        rw [hq] at hj
        obtain rfl := Option.some.inj hj
        obtain ⟨r, hr', er⟩ := pair_at pR7 hq
        have er : G7 M = some (.lst (r.map fun v : Nat => V.int (v : Int))) := er
        have erH := s8 _ _ (d7.same _ _ er)
        have hrm := rlen r (List.mem_of_getElem? hr')
        have htl := pt.length
        rw [List.length_take, List.length_map, seven] at htl
        refine ⟨rfl, _, rfl, M, rfl, ⟨_, SqL.of erH⟩, fun D3 nD3 => ?_⟩
        refine lc_list (K := K) (a := M) (xs := r.map fun v : Nat => V.int (v : Int)) (fun i H' => H' = upd H8 D3 (.lst (((r.take i).map nm).map V.str))) rfl (fun i H' _ h => by rw [h]; exact SqL.of (same_upd nD3 _ _ erH)) ?_ ?_
        · rintro i x H9 hi rfl
          rw [List.getElem?_map] at hi
          cases hz : r[i]? with
          | none => rw [hz] at hi; cases hi
          | some z =>
            rw [hz] at hi
            obtain rfl := Option.some.inj hi
            have hzp := hrm.2 z (List.mem_of_getElem? hz)
            refine ⟨rfl, _, rfl, _, rfl, L, _, _, .str (nm z), rfl, rfl, SqL.of (same_upd nD3 _ _ (s8 _ _ (d7.same _ _ hL7))), aN (by omega), ?_⟩
            refine ⟨_, upd_same, small1000 (by rw [List.length_map, List.length_map, List.length_take]; have := hrm.1; omega), ?_⟩
            funext y
            by_cases ey : y = D3
            · rw [ey, upd_same, upd_same, take_more hz, List.map_append, List.map_append]
              rfl
            · rw [upd_ne ey, upd_ne ey, upd_ne ey]
        · rintro H9 rfl
          rw [List.length_map, List.take_length]
          have s9 := same_upd (o := .lst ((r.map nm).map V.str)) nD3
          refine ⟨D3, _, rfl, .inl ⟨SqL.of upd_same, fun Tn nT => ?_⟩⟩
          have s10 := s9.trans (same_upd (o := .tup ((r.map nm).map V.str)) nT)
          have eTn : (upd (upd H8 D3 (.lst ((r.map nm).map V.str))) Tn (.tup ((r.map nm).map V.str))) Tn = some (.tup ((r.map nm).map V.str)) := upd_same
          have fTn : H7 Tn = none := (s8.trans s9).free nT
          generalize upd (upd H8 D3 (.lst ((r.map nm).map V.str))) Tn (.tup ((r.map nm).map V.str)) = H10 at s10 eTn ⊢
          refine ⟨_, s10 _ _ eD, small1000 (by rw [List.length_map]; omega), same_keep nD2 (s8.trans s10), ts8 ++ [Tn], by rw [upd_same, List.map_append]; rfl, ?_⟩
          rw [take_more (show (rows.map fun r => r.map nm)[j]? = some (r.map nm) by rw [List.getElem?_map, hr']; rfl)]
          have keep : ∀ a b, NamesT H10 a b → NamesT (upd H10 D2 (.lst (ts8.map V.ref ++ [.ref Tn]))) a b := fun a b h => by
            show (upd _ D2 _) a = _
            rw [upd_ne (fun z => by
              have h : H10 a = some (.tup (b.map V.str)) := h
              rw [z, s10 _ _ eD] at h
              cases h)]
            exact h
          exact paired_snoc ⟨keep _ _ eTn, fTn⟩ (pt.mono fun a b h => ⟨keep _ _ (s10 _ _ h.1), h.2⟩)
    rintro H9 ⟨s9, ts9, eD, pt⟩
    rw [List.length_map, pR7.length, ← List.length_map (f := fun r : List Nat => r.map nm) (as := rows), List.take_length] at pt
    refine ⟨D2, _, rfl, .inl ⟨SqL.of eD, fun Pn nP => ?_⟩⟩
    have s10 := s9.trans (same_upd (o := .tup (ts9.map V.ref)) nP)
    obtain ⟨G10, sG10, d10, al, _⟩ := d7.all s10
    have h7 : SevenS G10 Pn (rows.map fun r => r.map nm) := ⟨ts9, al _ _ (s9.free nP) upd_same, pt.mono fun a b h => al _ _ h.2 (same_upd nP _ _ h.1)⟩
    have rowsD := rowsD.on sG10
    have hN := hN.same sG10
    have hW10 := sG10 _ _ hW7
    have hL10 := sG10 _ _ hL7
    generalize upd H9 Pn (.tup (ts9.map V.ref)) = H10 at d10 s10 al ⊢
    clear s9 s10 sG10 al eD pt nP nD2  hW7 hL7 eR7 pR7 d7
    have nokT := (nok2.perm pm)
    have hfo : ∀ z, found ts z = found (rowsOf ns2 ws ps) z := fun z => (found_one nok2.nd pm z).trans (found_one nok.nd pes z)
    have hsame : ∀ rows' : List (List Str), rows'.length = 7 → pairB ts (ws.getD sN "") (ws.getD eN "") rows' = dueB (rowsOf ns2 ws ps) (ws.getD sN "") (ws.getD eN "") rows' := fun rows' h => (pair_due nokT.acy nokT.use h).trans (due_one hfo _ _ rows')
    have r7 : (rows.map fun r => r.map nm).length = 7 := by rw [List.length_map]; exact seven
    have due0 : mrg = false → dueB (rowsOf ns2 ws ps) (ws.getD sN "") (ws.getD eN "") (rows.map fun r => r.map nm) = true := fun hm => by
      have tr : Tr (rowsOf ns2 ws ps) nm (fun v => ws.getD v "") ps0 := by
        refine ⟨fun k hk => ?_, fun k hk => ?_, fun a b ha hb h => getD_inj hw.nd (by rw [hw.len]; exact ha) (by rw [hw.len]; exact hb) h⟩
        · have hf := found_row (ws := ws) hlen hls.nd (show k < ps.length by omega)
          have e : nm k = ns2.getD k "" := by rw [← hnm]
          rw [e, ← hps hm k hk]
          obtain ⟨h1, h2⟩ := found_th hf
          exact ⟨h1, h2, found_kn.mpr ⟨_, hf⟩⟩
        · rw [← hps hm k hk]
          exact fine.lt _ (getD_mem (by omega))
      rw [← pair_due nok.acy nok.use r7]
      exact tr.pair fine.hs fine.ht pair
    have hre : ∀ e ∈ rowsOf ns2 ws ps, WnE e := fun e he => (nok.ok e he).2
    have hte : ∀ e ∈ ts, WnE e := fun e he => (nokT.ok e he).2
    have h20 : (rowsOf ns2 ws ps).length ≤ 20 := by rw [← pes.length_eq]; omega
    have hs := nok.hs.2
    have ht := nok.ht.2
    have hL10' : ns2.length ≤ 10 := by omega
    have hsW := aW fine.hs
    have htW := aW fine.ht
    have hb5 : ∀ r ∈ rows.map fun r => r.map nm, r.length ≤ 5 := fun r hr => by
      obtain ⟨r', h1, rfl⟩ := List.mem_map.mp hr
      rw [List.length_map]
      exact (rlen r' h1).1
    generalize rowsOf ns2 ws ps = es0 at *
    generalize ws.getD sN "" = sW at *
    generalize ws.getD eN "" = eW at *
    generalize (rows.map fun r => r.map nm) = sv at *
    clear nok nok2 nokT hfo pair rlen hps lens aN aW fine pos few hlen hls hnm seven h10 pes pm srt hpl hql
    dsimp only [List.set_cons_zero, List.set_cons_succ]
    have dueP : ∀ {G' : Hp} {Hx : Hp} {Px : Addr} {rw' : List (List Str)} {m' : Nat} {Q' : VK}, Same G10 G' → DSt G' Hx st m' → SevenS G' Px rw' → rw'.length = 7 → (∀ r ∈ rw', r.length ≤ 100) → (∀ H', Same Hx H' → Q' (.bl (dueB es0 sW eW rw')) H') → spDueP [.ref D, .str sW, .str eW, .ref Px] Hx Q' E0 := fun sx dx hx h7x hbx kx => ⟨D, _, sW, eW, es0, _, rfl, (rowsD.on sx).on dx.same, by obtain ⟨a, b, c⟩ := hx; exact ⟨a, dx.same _ _ b, c.mono fun _ _ h => dx.same _ _ h⟩, h7x, h20, hbx, hre, kx⟩
    refine ⟨fun σ H' => σ = [some (.ref S), some (.ref st), some (.ref l), some (.ref R), some (.int (cN : Int)), some (.int (sN : Int)), some (.int (eN : Int)), some (.bl mrg), some (.ref S2), some (.ref L), some (.ref D), some (.ref n), some (.ref Pn), none, none, none, none, none] ∧ DSt G10 H' st 50, ?_, ?_⟩
    · refine ⟨_, rfl, mrg, rfl, ?_⟩
      cases mrg with
      | true => exact iteF (iteF ⟨rfl, d10⟩)
      | false =>
        refine iteT ⟨_, rfl, _, rfl, _, rfl, S2, _, _, _, rfl, rfl, SqL.of (d10.same _ _ hW10), hsW, _, rfl, _, rfl, S2, _, _, _, rfl, rfl, SqL.of (d10.same _ _ hW10), htW, _, rfl, ?_⟩
        dsimp only [L2.tNil]
        refine dueP (fun _ _ h => h) d10 h7 r7 (fun r hr => Nat.le_trans (hb5 r hr) (by decide)) fun H11 s11 => ?_
        rw [due0 rfl]
        exact ⟨_, rfl, iteF ⟨rfl, d10.on s11⟩⟩
    rintro σ H11 ⟨rfl, d11⟩
    refine ⟨fun σ H' => ∃ (Px : Addr) (rw' : List (List Str)) (G' : Hp) (y13 y14 y15 : Option V), σ = [some (.ref S), some (.ref st), some (.ref l), some (.ref R), some (.int (cN : Int)), some (.int (sN : Int)), some (.int (eN : Int)), some (.bl mrg), some (.ref S2), some (.ref L), some (.ref D), some (.ref n), some (.ref Px), y13, y14, y15, none, none] ∧ Same G10 G' ∧ DSt G' H' st 92 ∧ SevenS G' Px rw' ∧ rw'.length = 7 ∧ ∀ r ∈ rw', r.length ≤ 54, ?_, ?_⟩
    · refine ⟨_, rfl, by decide, by decide, ?_⟩
      refine for_range (lo := 0) (n := 7) (fun i σ H' => ∃ (Px : Addr) (rw' : List (List Str)) (G' : Hp) (y13 y14 y15 : Option V), σ = [some (.ref S), some (.ref st), some (.ref l), some (.ref R), some (.int (cN : Int)), some (.int (sN : Int)), some (.int (eN : Int)), some (.bl mrg), some (.ref S2), some (.ref L), some (.ref D), some (.ref n), some (.ref Px), y13, y14, y15, none, none] ∧ Same G10 G' ∧ DSt G' H' st (50 + 6 * i) ∧ SevenS G' Px rw' ∧ rw'.length = 7 ∧ ∀ r ∈ rw', r.length ≤ 5 + 7 * i) ⟨Pn, sv, G10, none, none, none, rfl, fun _ _ h => h, d11, h7, r7, hb5⟩ ?_ ?_
      · rintro i σ H12 hi ⟨Px, rw', G12, y13, y14, y15, rfl, s12, d12, hx, r7', hb⟩
        dsimp only [List.set_cons_zero, List.set_cons_succ]
        refine ⟨_, rfl, _, rfl, _, rfl, S2, _, _, _, rfl, rfl, SqL.of (d12.same _ _ (s12 _ _ hW10)), hsW, _, rfl, _, rfl, S2, _, _, _, rfl, rfl, SqL.of (d12.same _ _ (s12 _ _ hW10)), htW, _, rfl, ?_⟩
        dsimp only [L2.tNil]
        refine dueP s12 d12 hx r7' (fun r hr => Nat.le_trans (hb r hr) (by omega)) fun H13 s13 => ?_
        have d13 := d12.on s13
        have hN13 := (hN.same s12).same d13.same
        have seven13 : ∀ {Hx : Hp}, Same G12 Hx → SevenS Hx Px rw' := fun sx => by obtain ⟨a, b, c⟩ := hx; exact ⟨a, sx _ _ b, c.mono fun _ _ h => sx _ _ h⟩
        have hb100 : ∀ r ∈ rw', r.length ≤ 100 := fun r hr => Nat.le_trans (hb r hr) (by omega)
        refine ⟨_, rfl, _, rfl, n, Px, sW, eW, ts, qp, rw', rfl, hN13, seven13 d13.same, r7', hb100, hte, hs, ht, fun H14 s14 => ?_⟩
        rw [hsame rw' r7']
        generalize hdue : dueB es0 sW eW rw' = due
        have d14 := d13.on s14
        refine ⟨_, rfl, .bl due, _, _, _, true, rfl, .ty "bool", .base (by constructor), kit_bool, ?_⟩
        refine ⟨_, rfl, ?_⟩
        refine iteF ?_
        refine ⟨_, rfl, _, rfl, rfl, ?_⟩
        rw [show (!decide (V.bl due = V.bl due)) = false by simp]
        refine ⟨_, rfl, iteF ?_⟩
        refine ⟨_, rfl, _, rfl, by show 2 ≤ sizeLine; decide, fun A2 nA => ?_⟩
        have sA := same_upd (o := .tup [.str "bridged", .ref Px]) nA
        refine ⟨n, A2, Px, sW, eW, ts, qp, rw', rfl, upd_same, ((hN.same s12).same d14.same).same sA, seven13 (d14.same.trans sA), r7', hb100, hte, hs, ht, fun H15 s15 => ?_⟩
        rw [hsame rw' r7', hdue]
        refine ⟨_, rfl, rfl, ?_⟩
        rw [show (!decide (V.bl due = V.bl due)) = false by simp]
        refine ⟨_, rfl, iteF ?_⟩
        have d15 := (d14.on sA).on s15
        refine ⟨_, rfl, _, rfl, _, rfl, G12, st, L, Px, _, _, ns2, rw', rfl, d15, by omega, s12 _ _ hL10, hL10', hx, r7', hb, by omega, fun p' G' H' rows' sG d' hx' h7' hb' => ?_⟩
        exact ⟨p', rows', G', _, _, _, rfl, s12.trans sG, d'.mono (by omega), hx', h7', fun r hr => by have := hb' r hr; omega⟩
      · rintro σ H12 ⟨Px, rw', G12, y13, y14, y15, rfl, s12, d12, hx, r7', hb⟩
        exact ⟨Px, rw', G12, _, _, _, rfl, s12, d12.mono (by decide), hx, r7', hb⟩
    · rintro σ H12 ⟨Px, rw', G12, y13, y14, y15, rfl, s12, d12, hx, r7', hb⟩
      have d13 := d12
      have seven13 : ∀ {Hx : Hp}, Same G12 Hx → SevenS Hx Px rw' := fun sx => by obtain ⟨a, b, c⟩ := hx; exact ⟨a, sx _ _ b, c.mono fun _ _ h => sx _ _ h⟩
      have hb100 : ∀ r ∈ rw', r.length ≤ 100 := fun r hr => Nat.le_trans (hb r hr) (by omega)
      refine ⟨_, rfl, _, rfl, n, Px, sW, eW, ts, qp, rw', rfl, (hN.same s12).same d12.same, seven13 d12.same, r7', hb100, hte, hs, ht, fun H14 s14 => ?_⟩
      rw [hsame rw' r7']
      have d14 := d13.on s14
      refine ⟨_, rfl, _, rfl, _, rfl, S2, _, _, _, rfl, rfl, SqL.of (d14.same _ _ (s12 _ _ hW10)), hsW, _, rfl, _, rfl, S2, _, _, _, rfl, rfl, SqL.of (d14.same _ _ (s12 _ _ hW10)), htW, _, rfl, ?_⟩
      dsimp only [L2.tNil]
      refine dueP s12 d14 hx r7' hb100 fun H15 s15 => ?_
      refine ⟨rfl, ?_⟩
      rw [decide_eq_true rfl]
      exact k H15
end

set_option maxHeartbeats 0 in
theorem all_mk {l : PySem.W.OpenLaw} {w : World} {K : PySem.W.Frag} {h : Heap} {mg : Str → Option Value} {f_BadName f_DuplicateName f_UnknownName f_BadCount f_HasRound f_UselessLink f_Network f_valid_name f_stops f_connects f_ordered_places f_places_behind f_useful_names f_check_ends f_check_names f_check_rounds f_check_use f_check_pair f_apart f_check_paper f_is_right f_is_formed f_is_tailed f_plan_ends f_plan_joints f_start f_take f_planted f_shuffled f_places f_between f_pair f_merged f_changed f_BadName_init f_DuplicateName_init f_UnknownName_init f_BadCount_init f_HasRound_init f_UselessLink_init f_Network_init f_Network_start p_Network_start f_Network_end p_Network_end f_Network_getitem f_Network_contains fa f_law : Addr} {od_valid_name an_valid_name od_stops an_stops od_connects an_connects od_ordered_places an_ordered_places od_places_behind an_places_behind od_useful_names an_useful_names od_check_ends an_check_ends od_check_names an_check_names od_check_rounds an_check_rounds od_check_use an_check_use od_check_pair an_check_pair od_apart an_apart od_check_paper an_check_paper od_is_right an_is_right od_is_formed an_is_formed od_is_tailed an_is_tailed od_plan_ends an_plan_ends od_plan_joints an_plan_joints od_start an_start od_take an_take od_planted an_planted od_shuffled an_shuffled od_places an_places od_between an_between od_pair an_pair od_merged an_merged od_changed an_changed od_BadName_init an_BadName_init od_DuplicateName_init an_DuplicateName_init od_UnknownName_init an_UnknownName_init od_BadCount_init an_BadCount_init od_HasRound_init an_HasRound_init od_UselessLink_init an_UselessLink_init od_Network_init an_Network_init od_Network_start an_Network_start od_Network_end an_Network_end od_Network_getitem an_Network_getitem od_Network_contains an_Network_contains od_law an_law : Option Addr} {sl_valid_name sl_stops sl_connects sl_ordered_places sl_places_behind sl_useful_names sl_check_ends sl_check_names sl_check_rounds sl_check_use sl_check_pair sl_apart sl_check_paper sl_is_right sl_is_formed sl_is_tailed sl_plan_ends sl_plan_joints sl_start sl_take sl_planted sl_shuffled sl_places sl_between sl_pair sl_merged sl_changed sl_BadName_init sl_DuplicateName_init sl_UnknownName_init sl_BadCount_init sl_HasRound_init sl_UselessLink_init sl_Network_init sl_Network_start sl_Network_end sl_Network_getitem sl_Network_contains sl_law : Array (Option Value)} {oc_valid_name kV_valid_name dc_valid_name pm_valid_name cd_valid_name ct_valid_name oc_stops kV_stops dc_stops pm_stops cd_stops ct_stops oc_connects kV_connects dc_connects pm_connects cd_connects ct_connects oc_ordered_places kV_ordered_places dc_ordered_places pm_ordered_places cd_ordered_places ct_ordered_places oc_places_behind kV_places_behind dc_places_behind pm_places_behind cd_places_behind ct_places_behind oc_useful_names kV_useful_names dc_useful_names pm_useful_names cd_useful_names ct_useful_names oc_check_ends kV_check_ends dc_check_ends pm_check_ends cd_check_ends ct_check_ends oc_check_names kV_check_names dc_check_names pm_check_names cd_check_names ct_check_names oc_check_rounds kV_check_rounds dc_check_rounds pm_check_rounds cd_check_rounds ct_check_rounds oc_check_use kV_check_use dc_check_use pm_check_use cd_check_use ct_check_use oc_check_pair kV_check_pair dc_check_pair pm_check_pair cd_check_pair ct_check_pair oc_apart kV_apart dc_apart pm_apart cd_apart ct_apart oc_check_paper kV_check_paper dc_check_paper pm_check_paper cd_check_paper ct_check_paper oc_is_right kV_is_right dc_is_right pm_is_right cd_is_right ct_is_right oc_is_formed kV_is_formed dc_is_formed pm_is_formed cd_is_formed ct_is_formed oc_is_tailed kV_is_tailed dc_is_tailed pm_is_tailed cd_is_tailed ct_is_tailed oc_plan_ends kV_plan_ends dc_plan_ends pm_plan_ends cd_plan_ends ct_plan_ends oc_plan_joints kV_plan_joints dc_plan_joints pm_plan_joints cd_plan_joints ct_plan_joints oc_start kV_start dc_start pm_start cd_start ct_start oc_take kV_take dc_take pm_take cd_take ct_take oc_planted kV_planted dc_planted pm_planted cd_planted ct_planted oc_shuffled kV_shuffled dc_shuffled pm_shuffled cd_shuffled ct_shuffled oc_places kV_places dc_places pm_places cd_places ct_places oc_between kV_between dc_between pm_between cd_between ct_between oc_pair kV_pair dc_pair pm_pair cd_pair ct_pair oc_merged kV_merged dc_merged pm_merged cd_merged ct_merged oc_changed kV_changed dc_changed pm_changed cd_changed ct_changed oc_BadName_init kV_BadName_init dc_BadName_init pm_BadName_init cd_BadName_init ct_BadName_init oc_DuplicateName_init kV_DuplicateName_init dc_DuplicateName_init pm_DuplicateName_init cd_DuplicateName_init ct_DuplicateName_init oc_UnknownName_init kV_UnknownName_init dc_UnknownName_init pm_UnknownName_init cd_UnknownName_init ct_UnknownName_init oc_BadCount_init kV_BadCount_init dc_BadCount_init pm_BadCount_init cd_BadCount_init ct_BadCount_init oc_HasRound_init kV_HasRound_init dc_HasRound_init pm_HasRound_init cd_HasRound_init ct_HasRound_init oc_UselessLink_init kV_UselessLink_init dc_UselessLink_init pm_UselessLink_init cd_UselessLink_init ct_UselessLink_init oc_Network_init kV_Network_init dc_Network_init pm_Network_init cd_Network_init ct_Network_init oc_Network_start kV_Network_start dc_Network_start pm_Network_start cd_Network_start ct_Network_start oc_Network_end kV_Network_end dc_Network_end pm_Network_end cd_Network_end ct_Network_end oc_Network_getitem kV_Network_getitem dc_Network_getitem pm_Network_getitem cd_Network_getitem ct_Network_getitem oc_Network_contains kV_Network_contains dc_Network_contains pm_Network_contains cd_Network_contains ct_Network_contains oc_law kV_law dc_law pm_law cd_law ct_law : Value} {rs_Network_start rs_Network_end : List Value} {tv_Network_MOST_LINKS tv_Network_MOST_PLACES t_BRIDGED t_CHAIN t_DIGITS t_FORK t_LETTERS t_LINK t_LONGEST_NAME t_TAIL t_WOVEN : Tok} (X : K.In h) (G : h.Ns mainGlobals mg) (hfa : mg "law" = some (.ref fa))
    (a_BadName : PySem.W.nsIn K mainGlobals "BadName" = some (some (.ref f_BadName)))
    (a_DuplicateName : PySem.W.nsIn K mainGlobals "DuplicateName" = some (some (.ref f_DuplicateName)))
    (a_UnknownName : PySem.W.nsIn K mainGlobals "UnknownName" = some (some (.ref f_UnknownName)))
    (a_BadCount : PySem.W.nsIn K mainGlobals "BadCount" = some (some (.ref f_BadCount)))
    (a_HasRound : PySem.W.nsIn K mainGlobals "HasRound" = some (some (.ref f_HasRound)))
    (a_UselessLink : PySem.W.nsIn K mainGlobals "UselessLink" = some (some (.ref f_UselessLink)))
    (a_Network : PySem.W.nsIn K mainGlobals "Network" = some (some (.ref f_Network)))
    (pg_Network : PySem.W.plainGet K f_Network Str.empty = true)
    (hd_Network : PySem.W.hasDictIn K f_Network = true)
    (po_Network : PySem.W.plainOver K f_Network = true)
    (sa_Network : PySem.W.findIn K (.ref f_Network) "__setattr__" = some (some (.builtin "object.__setattr__")))
    (mk_Network : PySem.W.makesIn K f_Network = true)
    (kc_Network : PySem.W.keepIn K (.ref f_Network) = true)
    (hc_Network : PySem.W.findIn K (.ref f_Network) "__class__" = some (some (.builtin "object.__class__")))
    (mo_Network : PySem.W.mroIn K f_Network (.type "object") = some true)
    (ic_Network : PySem.W.isClsIn K f_Network = true)
    (ty_Network : PySem.W.typeIn K (.ref f_Network) = some (.type "type"))
    (hn_class : PySem.W.specialIn K (.builtin "object.__class__") "__get__" = some (some (.builtin "getset_descriptor.__get__")))
    (ht_class : PySem.W.takesIn K (.builtin "object.__class__") = some true)
    (na_Network_start : PySem.W.findIn K (.ref f_Network) "_start" = some none)
    (na_Network_end : PySem.W.findIn K (.ref f_Network) "_end" = some none)
    (na_Network_links : PySem.W.findIn K (.ref f_Network) "_links" = some none)
    (na_Network_places : PySem.W.findIn K (.ref f_Network) "_places" = some none)
    (na_Network_behind : PySem.W.findIn K (.ref f_Network) "_behind" = some none)
    (a_valid_name : PySem.W.nsIn K mainGlobals "valid_name" = some (some (.ref f_valid_name)))
    (l_valid_name : K.lookup f_valid_name = some ⟨oc_valid_name, od_valid_name, .func (PySem.W.fnOf "valid_name" "valid_name" (defArgs s_valid_name) (defBody s_valid_name) (defScope s_valid_name) .none kV_valid_name dc_valid_name pm_valid_name an_valid_name cd_valid_name ct_valid_name), sl_valid_name⟩)
    (c_valid_name : PySem.W.codeIn K cd_valid_name "valid_name" = true)
    (k_valid_name : PySem.W.keepIn K (.ref f_valid_name) = true)
    (a_stops : PySem.W.nsIn K mainGlobals "stops" = some (some (.ref f_stops)))
    (l_stops : K.lookup f_stops = some ⟨oc_stops, od_stops, .func (PySem.W.fnOf "stops" "stops" (defArgs s_stops) (defBody s_stops) (defScope s_stops) .none kV_stops dc_stops pm_stops an_stops cd_stops ct_stops), sl_stops⟩)
    (c_stops : PySem.W.codeIn K cd_stops "stops" = true)
    (k_stops : PySem.W.keepIn K (.ref f_stops) = true)
    (a_connects : PySem.W.nsIn K mainGlobals "connects" = some (some (.ref f_connects)))
    (l_connects : K.lookup f_connects = some ⟨oc_connects, od_connects, .func (PySem.W.fnOf "connects" "connects" (defArgs s_connects) (defBody s_connects) (defScope s_connects) .none kV_connects dc_connects pm_connects an_connects cd_connects ct_connects), sl_connects⟩)
    (c_connects : PySem.W.codeIn K cd_connects "connects" = true)
    (k_connects : PySem.W.keepIn K (.ref f_connects) = true)
    (a_ordered_places : PySem.W.nsIn K mainGlobals "ordered_places" = some (some (.ref f_ordered_places)))
    (l_ordered_places : K.lookup f_ordered_places = some ⟨oc_ordered_places, od_ordered_places, .func (PySem.W.fnOf "ordered_places" "ordered_places" (defArgs s_ordered_places) (defBody s_ordered_places) (defScope s_ordered_places) .none kV_ordered_places dc_ordered_places pm_ordered_places an_ordered_places cd_ordered_places ct_ordered_places), sl_ordered_places⟩)
    (c_ordered_places : PySem.W.codeIn K cd_ordered_places "ordered_places" = true)
    (k_ordered_places : PySem.W.keepIn K (.ref f_ordered_places) = true)
    (a_places_behind : PySem.W.nsIn K mainGlobals "places_behind" = some (some (.ref f_places_behind)))
    (l_places_behind : K.lookup f_places_behind = some ⟨oc_places_behind, od_places_behind, .func (PySem.W.fnOf "places_behind" "places_behind" (defArgs s_places_behind) (defBody s_places_behind) (defScope s_places_behind) .none kV_places_behind dc_places_behind pm_places_behind an_places_behind cd_places_behind ct_places_behind), sl_places_behind⟩)
    (c_places_behind : PySem.W.codeIn K cd_places_behind "places_behind" = true)
    (k_places_behind : PySem.W.keepIn K (.ref f_places_behind) = true)
    (a_useful_names : PySem.W.nsIn K mainGlobals "useful_names" = some (some (.ref f_useful_names)))
    (l_useful_names : K.lookup f_useful_names = some ⟨oc_useful_names, od_useful_names, .func (PySem.W.fnOf "useful_names" "useful_names" (defArgs s_useful_names) (defBody s_useful_names) (defScope s_useful_names) .none kV_useful_names dc_useful_names pm_useful_names an_useful_names cd_useful_names ct_useful_names), sl_useful_names⟩)
    (c_useful_names : PySem.W.codeIn K cd_useful_names "useful_names" = true)
    (k_useful_names : PySem.W.keepIn K (.ref f_useful_names) = true)
    (a_check_ends : PySem.W.nsIn K mainGlobals "check_ends" = some (some (.ref f_check_ends)))
    (l_check_ends : K.lookup f_check_ends = some ⟨oc_check_ends, od_check_ends, .func (PySem.W.fnOf "check_ends" "check_ends" (defArgs s_check_ends) (defBody s_check_ends) (defScope s_check_ends) .none kV_check_ends dc_check_ends pm_check_ends an_check_ends cd_check_ends ct_check_ends), sl_check_ends⟩)
    (c_check_ends : PySem.W.codeIn K cd_check_ends "check_ends" = true)
    (k_check_ends : PySem.W.keepIn K (.ref f_check_ends) = true)
    (a_check_names : PySem.W.nsIn K mainGlobals "check_names" = some (some (.ref f_check_names)))
    (l_check_names : K.lookup f_check_names = some ⟨oc_check_names, od_check_names, .func (PySem.W.fnOf "check_names" "check_names" (defArgs s_check_names) (defBody s_check_names) (defScope s_check_names) .none kV_check_names dc_check_names pm_check_names an_check_names cd_check_names ct_check_names), sl_check_names⟩)
    (c_check_names : PySem.W.codeIn K cd_check_names "check_names" = true)
    (k_check_names : PySem.W.keepIn K (.ref f_check_names) = true)
    (a_check_rounds : PySem.W.nsIn K mainGlobals "check_rounds" = some (some (.ref f_check_rounds)))
    (l_check_rounds : K.lookup f_check_rounds = some ⟨oc_check_rounds, od_check_rounds, .func (PySem.W.fnOf "check_rounds" "check_rounds" (defArgs s_check_rounds) (defBody s_check_rounds) (defScope s_check_rounds) .none kV_check_rounds dc_check_rounds pm_check_rounds an_check_rounds cd_check_rounds ct_check_rounds), sl_check_rounds⟩)
    (c_check_rounds : PySem.W.codeIn K cd_check_rounds "check_rounds" = true)
    (k_check_rounds : PySem.W.keepIn K (.ref f_check_rounds) = true)
    (a_check_use : PySem.W.nsIn K mainGlobals "check_use" = some (some (.ref f_check_use)))
    (l_check_use : K.lookup f_check_use = some ⟨oc_check_use, od_check_use, .func (PySem.W.fnOf "check_use" "check_use" (defArgs s_check_use) (defBody s_check_use) (defScope s_check_use) .none kV_check_use dc_check_use pm_check_use an_check_use cd_check_use ct_check_use), sl_check_use⟩)
    (c_check_use : PySem.W.codeIn K cd_check_use "check_use" = true)
    (k_check_use : PySem.W.keepIn K (.ref f_check_use) = true)
    (a_check_pair : PySem.W.nsIn K mainGlobals "check_pair" = some (some (.ref f_check_pair)))
    (l_check_pair : K.lookup f_check_pair = some ⟨oc_check_pair, od_check_pair, .func (PySem.W.fnOf "check_pair" "check_pair" (defArgs s_check_pair) (defBody s_check_pair) (defScope s_check_pair) .none kV_check_pair dc_check_pair pm_check_pair an_check_pair cd_check_pair ct_check_pair), sl_check_pair⟩)
    (c_check_pair : PySem.W.codeIn K cd_check_pair "check_pair" = true)
    (k_check_pair : PySem.W.keepIn K (.ref f_check_pair) = true)
    (a_apart : PySem.W.nsIn K mainGlobals "apart" = some (some (.ref f_apart)))
    (l_apart : K.lookup f_apart = some ⟨oc_apart, od_apart, .func (PySem.W.fnOf "apart" "apart" (defArgs s_apart) (defBody s_apart) (defScope s_apart) .none kV_apart dc_apart pm_apart an_apart cd_apart ct_apart), sl_apart⟩)
    (c_apart : PySem.W.codeIn K cd_apart "apart" = true)
    (k_apart : PySem.W.keepIn K (.ref f_apart) = true)
    (a_check_paper : PySem.W.nsIn K mainGlobals "check_paper" = some (some (.ref f_check_paper)))
    (l_check_paper : K.lookup f_check_paper = some ⟨oc_check_paper, od_check_paper, .func (PySem.W.fnOf "check_paper" "check_paper" (defArgs s_check_paper) (defBody s_check_paper) (defScope s_check_paper) .none kV_check_paper dc_check_paper pm_check_paper an_check_paper cd_check_paper ct_check_paper), sl_check_paper⟩)
    (c_check_paper : PySem.W.codeIn K cd_check_paper "check_paper" = true)
    (k_check_paper : PySem.W.keepIn K (.ref f_check_paper) = true)
    (a_is_right : PySem.W.nsIn K mainGlobals "is_right" = some (some (.ref f_is_right)))
    (l_is_right : K.lookup f_is_right = some ⟨oc_is_right, od_is_right, .func (PySem.W.fnOf "is_right" "is_right" (defArgs s_is_right) (defBody s_is_right) (defScope s_is_right) .none kV_is_right dc_is_right pm_is_right an_is_right cd_is_right ct_is_right), sl_is_right⟩)
    (c_is_right : PySem.W.codeIn K cd_is_right "is_right" = true)
    (k_is_right : PySem.W.keepIn K (.ref f_is_right) = true)
    (a_is_formed : PySem.W.nsIn K mainGlobals "is_formed" = some (some (.ref f_is_formed)))
    (l_is_formed : K.lookup f_is_formed = some ⟨oc_is_formed, od_is_formed, .func (PySem.W.fnOf "is_formed" "is_formed" (defArgs s_is_formed) (defBody s_is_formed) (defScope s_is_formed) .none kV_is_formed dc_is_formed pm_is_formed an_is_formed cd_is_formed ct_is_formed), sl_is_formed⟩)
    (c_is_formed : PySem.W.codeIn K cd_is_formed "is_formed" = true)
    (k_is_formed : PySem.W.keepIn K (.ref f_is_formed) = true)
    (a_is_tailed : PySem.W.nsIn K mainGlobals "is_tailed" = some (some (.ref f_is_tailed)))
    (l_is_tailed : K.lookup f_is_tailed = some ⟨oc_is_tailed, od_is_tailed, .func (PySem.W.fnOf "is_tailed" "is_tailed" (defArgs s_is_tailed) (defBody s_is_tailed) (defScope s_is_tailed) .none kV_is_tailed dc_is_tailed pm_is_tailed an_is_tailed cd_is_tailed ct_is_tailed), sl_is_tailed⟩)
    (c_is_tailed : PySem.W.codeIn K cd_is_tailed "is_tailed" = true)
    (k_is_tailed : PySem.W.keepIn K (.ref f_is_tailed) = true)
    (a_plan_ends : PySem.W.nsIn K mainGlobals "plan_ends" = some (some (.ref f_plan_ends)))
    (l_plan_ends : K.lookup f_plan_ends = some ⟨oc_plan_ends, od_plan_ends, .func (PySem.W.fnOf "plan_ends" "plan_ends" (defArgs s_plan_ends) (defBody s_plan_ends) (defScope s_plan_ends) .none kV_plan_ends dc_plan_ends pm_plan_ends an_plan_ends cd_plan_ends ct_plan_ends), sl_plan_ends⟩)
    (c_plan_ends : PySem.W.codeIn K cd_plan_ends "plan_ends" = true)
    (k_plan_ends : PySem.W.keepIn K (.ref f_plan_ends) = true)
    (a_plan_joints : PySem.W.nsIn K mainGlobals "plan_joints" = some (some (.ref f_plan_joints)))
    (l_plan_joints : K.lookup f_plan_joints = some ⟨oc_plan_joints, od_plan_joints, .func (PySem.W.fnOf "plan_joints" "plan_joints" (defArgs s_plan_joints) (defBody s_plan_joints) (defScope s_plan_joints) .none kV_plan_joints dc_plan_joints pm_plan_joints an_plan_joints cd_plan_joints ct_plan_joints), sl_plan_joints⟩)
    (c_plan_joints : PySem.W.codeIn K cd_plan_joints "plan_joints" = true)
    (k_plan_joints : PySem.W.keepIn K (.ref f_plan_joints) = true)
    (a_start : PySem.W.nsIn K mainGlobals "_law_start" = some (some (.ref f_start)))
    (l_start : K.lookup f_start = some ⟨oc_start, od_start, .func (PySem.W.fnOf "_law_start" "_law_start" (defArgs s_start) (defBody s_start) (defScope s_start) .none kV_start dc_start pm_start an_start cd_start ct_start), sl_start⟩)
    (c_start : PySem.W.codeIn K cd_start "_law_start" = true)
    (k_start : PySem.W.keepIn K (.ref f_start) = true)
    (a_take : PySem.W.nsIn K mainGlobals "_law_take" = some (some (.ref f_take)))
    (l_take : K.lookup f_take = some ⟨oc_take, od_take, .func (PySem.W.fnOf "_law_take" "_law_take" (defArgs s_take) (defBody s_take) (defScope s_take) .none kV_take dc_take pm_take an_take cd_take ct_take), sl_take⟩)
    (c_take : PySem.W.codeIn K cd_take "_law_take" = true)
    (k_take : PySem.W.keepIn K (.ref f_take) = true)
    (a_planted : PySem.W.nsIn K mainGlobals "_law_planted" = some (some (.ref f_planted)))
    (l_planted : K.lookup f_planted = some ⟨oc_planted, od_planted, .func (PySem.W.fnOf "_law_planted" "_law_planted" (defArgs s_planted) (defBody s_planted) (defScope s_planted) .none kV_planted dc_planted pm_planted an_planted cd_planted ct_planted), sl_planted⟩)
    (c_planted : PySem.W.codeIn K cd_planted "_law_planted" = true)
    (k_planted : PySem.W.keepIn K (.ref f_planted) = true)
    (a_shuffled : PySem.W.nsIn K mainGlobals "_law_shuffled" = some (some (.ref f_shuffled)))
    (l_shuffled : K.lookup f_shuffled = some ⟨oc_shuffled, od_shuffled, .func (PySem.W.fnOf "_law_shuffled" "_law_shuffled" (defArgs s_shuffled) (defBody s_shuffled) (defScope s_shuffled) .none kV_shuffled dc_shuffled pm_shuffled an_shuffled cd_shuffled ct_shuffled), sl_shuffled⟩)
    (c_shuffled : PySem.W.codeIn K cd_shuffled "_law_shuffled" = true)
    (k_shuffled : PySem.W.keepIn K (.ref f_shuffled) = true)
    (a_places : PySem.W.nsIn K mainGlobals "_law_places" = some (some (.ref f_places)))
    (l_places : K.lookup f_places = some ⟨oc_places, od_places, .func (PySem.W.fnOf "_law_places" "_law_places" (defArgs s_places) (defBody s_places) (defScope s_places) .none kV_places dc_places pm_places an_places cd_places ct_places), sl_places⟩)
    (c_places : PySem.W.codeIn K cd_places "_law_places" = true)
    (k_places : PySem.W.keepIn K (.ref f_places) = true)
    (a_between : PySem.W.nsIn K mainGlobals "_law_between" = some (some (.ref f_between)))
    (l_between : K.lookup f_between = some ⟨oc_between, od_between, .func (PySem.W.fnOf "_law_between" "_law_between" (defArgs s_between) (defBody s_between) (defScope s_between) .none kV_between dc_between pm_between an_between cd_between ct_between), sl_between⟩)
    (c_between : PySem.W.codeIn K cd_between "_law_between" = true)
    (k_between : PySem.W.keepIn K (.ref f_between) = true)
    (a_pair : PySem.W.nsIn K mainGlobals "_law_pair" = some (some (.ref f_pair)))
    (l_pair : K.lookup f_pair = some ⟨oc_pair, od_pair, .func (PySem.W.fnOf "_law_pair" "_law_pair" (defArgs s_pair) (defBody s_pair) (defScope s_pair) .none kV_pair dc_pair pm_pair an_pair cd_pair ct_pair), sl_pair⟩)
    (c_pair : PySem.W.codeIn K cd_pair "_law_pair" = true)
    (k_pair : PySem.W.keepIn K (.ref f_pair) = true)
    (a_merged : PySem.W.nsIn K mainGlobals "_law_merged" = some (some (.ref f_merged)))
    (l_merged : K.lookup f_merged = some ⟨oc_merged, od_merged, .func (PySem.W.fnOf "_law_merged" "_law_merged" (defArgs s_merged) (defBody s_merged) (defScope s_merged) .none kV_merged dc_merged pm_merged an_merged cd_merged ct_merged), sl_merged⟩)
    (c_merged : PySem.W.codeIn K cd_merged "_law_merged" = true)
    (k_merged : PySem.W.keepIn K (.ref f_merged) = true)
    (a_changed : PySem.W.nsIn K mainGlobals "_law_changed" = some (some (.ref f_changed)))
    (l_changed : K.lookup f_changed = some ⟨oc_changed, od_changed, .func (PySem.W.fnOf "_law_changed" "_law_changed" (defArgs s_changed) (defBody s_changed) (defScope s_changed) .none kV_changed dc_changed pm_changed an_changed cd_changed ct_changed), sl_changed⟩)
    (c_changed : PySem.W.codeIn K cd_changed "_law_changed" = true)
    (k_changed : PySem.W.keepIn K (.ref f_changed) = true)
    (a_BadName_init : PySem.W.findIn K (.ref f_BadName) "__init__" = some (some (.ref f_BadName_init)))
    (i_BadName_init : PySem.W.isFn K (.ref f_BadName_init) = true)
    (l_BadName_init : K.lookup f_BadName_init = some ⟨oc_BadName_init, od_BadName_init, .func (PySem.W.fnOf "__init__" "BadName.__init__" (defArgs s_BadName_init) (defBody s_BadName_init) (defScope s_BadName_init) .none kV_BadName_init dc_BadName_init pm_BadName_init an_BadName_init cd_BadName_init ct_BadName_init), sl_BadName_init⟩)
    (c_BadName_init : PySem.W.codeIn K cd_BadName_init "BadName.__init__" = true)
    (k_BadName_init : PySem.W.keepIn K (.ref f_BadName_init) = true)
    (a_DuplicateName_init : PySem.W.findIn K (.ref f_DuplicateName) "__init__" = some (some (.ref f_DuplicateName_init)))
    (i_DuplicateName_init : PySem.W.isFn K (.ref f_DuplicateName_init) = true)
    (l_DuplicateName_init : K.lookup f_DuplicateName_init = some ⟨oc_DuplicateName_init, od_DuplicateName_init, .func (PySem.W.fnOf "__init__" "DuplicateName.__init__" (defArgs s_DuplicateName_init) (defBody s_DuplicateName_init) (defScope s_DuplicateName_init) .none kV_DuplicateName_init dc_DuplicateName_init pm_DuplicateName_init an_DuplicateName_init cd_DuplicateName_init ct_DuplicateName_init), sl_DuplicateName_init⟩)
    (c_DuplicateName_init : PySem.W.codeIn K cd_DuplicateName_init "DuplicateName.__init__" = true)
    (k_DuplicateName_init : PySem.W.keepIn K (.ref f_DuplicateName_init) = true)
    (a_UnknownName_init : PySem.W.findIn K (.ref f_UnknownName) "__init__" = some (some (.ref f_UnknownName_init)))
    (i_UnknownName_init : PySem.W.isFn K (.ref f_UnknownName_init) = true)
    (l_UnknownName_init : K.lookup f_UnknownName_init = some ⟨oc_UnknownName_init, od_UnknownName_init, .func (PySem.W.fnOf "__init__" "UnknownName.__init__" (defArgs s_UnknownName_init) (defBody s_UnknownName_init) (defScope s_UnknownName_init) .none kV_UnknownName_init dc_UnknownName_init pm_UnknownName_init an_UnknownName_init cd_UnknownName_init ct_UnknownName_init), sl_UnknownName_init⟩)
    (c_UnknownName_init : PySem.W.codeIn K cd_UnknownName_init "UnknownName.__init__" = true)
    (k_UnknownName_init : PySem.W.keepIn K (.ref f_UnknownName_init) = true)
    (a_BadCount_init : PySem.W.findIn K (.ref f_BadCount) "__init__" = some (some (.ref f_BadCount_init)))
    (i_BadCount_init : PySem.W.isFn K (.ref f_BadCount_init) = true)
    (l_BadCount_init : K.lookup f_BadCount_init = some ⟨oc_BadCount_init, od_BadCount_init, .func (PySem.W.fnOf "__init__" "BadCount.__init__" (defArgs s_BadCount_init) (defBody s_BadCount_init) (defScope s_BadCount_init) .none kV_BadCount_init dc_BadCount_init pm_BadCount_init an_BadCount_init cd_BadCount_init ct_BadCount_init), sl_BadCount_init⟩)
    (c_BadCount_init : PySem.W.codeIn K cd_BadCount_init "BadCount.__init__" = true)
    (k_BadCount_init : PySem.W.keepIn K (.ref f_BadCount_init) = true)
    (a_HasRound_init : PySem.W.findIn K (.ref f_HasRound) "__init__" = some (some (.ref f_HasRound_init)))
    (i_HasRound_init : PySem.W.isFn K (.ref f_HasRound_init) = true)
    (l_HasRound_init : K.lookup f_HasRound_init = some ⟨oc_HasRound_init, od_HasRound_init, .func (PySem.W.fnOf "__init__" "HasRound.__init__" (defArgs s_HasRound_init) (defBody s_HasRound_init) (defScope s_HasRound_init) .none kV_HasRound_init dc_HasRound_init pm_HasRound_init an_HasRound_init cd_HasRound_init ct_HasRound_init), sl_HasRound_init⟩)
    (c_HasRound_init : PySem.W.codeIn K cd_HasRound_init "HasRound.__init__" = true)
    (k_HasRound_init : PySem.W.keepIn K (.ref f_HasRound_init) = true)
    (a_UselessLink_init : PySem.W.findIn K (.ref f_UselessLink) "__init__" = some (some (.ref f_UselessLink_init)))
    (i_UselessLink_init : PySem.W.isFn K (.ref f_UselessLink_init) = true)
    (l_UselessLink_init : K.lookup f_UselessLink_init = some ⟨oc_UselessLink_init, od_UselessLink_init, .func (PySem.W.fnOf "__init__" "UselessLink.__init__" (defArgs s_UselessLink_init) (defBody s_UselessLink_init) (defScope s_UselessLink_init) .none kV_UselessLink_init dc_UselessLink_init pm_UselessLink_init an_UselessLink_init cd_UselessLink_init ct_UselessLink_init), sl_UselessLink_init⟩)
    (c_UselessLink_init : PySem.W.codeIn K cd_UselessLink_init "UselessLink.__init__" = true)
    (k_UselessLink_init : PySem.W.keepIn K (.ref f_UselessLink_init) = true)
    (a_Network_init : PySem.W.findIn K (.ref f_Network) "__init__" = some (some (.ref f_Network_init)))
    (i_Network_init : PySem.W.isFn K (.ref f_Network_init) = true)
    (l_Network_init : K.lookup f_Network_init = some ⟨oc_Network_init, od_Network_init, .func (PySem.W.fnOf "__init__" "Network.__init__" (defArgs s_Network_init) (defBody s_Network_init) (defScope s_Network_init) .none kV_Network_init dc_Network_init pm_Network_init an_Network_init cd_Network_init ct_Network_init), sl_Network_init⟩)
    (c_Network_init : PySem.W.codeIn K cd_Network_init "Network.__init__" = true)
    (k_Network_init : PySem.W.keepIn K (.ref f_Network_init) = true)
    (a_Network_start : PySem.W.findIn K (.ref f_Network) "start" = some (some (.ref p_Network_start)))
    (pg_Network_start : PySem.W.specialIn K (.ref p_Network_start) "__get__" = some (some (.builtin "property.__get__")))
    (pt_Network_start : PySem.W.takesIn K (.ref p_Network_start) = some true)
    (pr_Network_start : PySem.W.recIn K p_Network_start "property" = some (.ref f_Network_start :: rs_Network_start))
    (l_Network_start : K.lookup f_Network_start = some ⟨oc_Network_start, od_Network_start, .func (PySem.W.fnOf "start" "Network.start" (defArgs s_Network_start) (defBody s_Network_start) (defScope s_Network_start) .none kV_Network_start dc_Network_start pm_Network_start an_Network_start cd_Network_start ct_Network_start), sl_Network_start⟩)
    (c_Network_start : PySem.W.codeIn K cd_Network_start "Network.start" = true)
    (k_Network_start : PySem.W.keepIn K (.ref f_Network_start) = true)
    (a_Network_end : PySem.W.findIn K (.ref f_Network) "end" = some (some (.ref p_Network_end)))
    (pg_Network_end : PySem.W.specialIn K (.ref p_Network_end) "__get__" = some (some (.builtin "property.__get__")))
    (pt_Network_end : PySem.W.takesIn K (.ref p_Network_end) = some true)
    (pr_Network_end : PySem.W.recIn K p_Network_end "property" = some (.ref f_Network_end :: rs_Network_end))
    (l_Network_end : K.lookup f_Network_end = some ⟨oc_Network_end, od_Network_end, .func (PySem.W.fnOf "end" "Network.end" (defArgs s_Network_end) (defBody s_Network_end) (defScope s_Network_end) .none kV_Network_end dc_Network_end pm_Network_end an_Network_end cd_Network_end ct_Network_end), sl_Network_end⟩)
    (c_Network_end : PySem.W.codeIn K cd_Network_end "Network.end" = true)
    (k_Network_end : PySem.W.keepIn K (.ref f_Network_end) = true)
    (a_Network_getitem : PySem.W.findIn K (.ref f_Network) "__getitem__" = some (some (.ref f_Network_getitem)))
    (i_Network_getitem : PySem.W.isFn K (.ref f_Network_getitem) = true)
    (l_Network_getitem : K.lookup f_Network_getitem = some ⟨oc_Network_getitem, od_Network_getitem, .func (PySem.W.fnOf "__getitem__" "Network.__getitem__" (defArgs s_Network_getitem) (defBody s_Network_getitem) (defScope s_Network_getitem) .none kV_Network_getitem dc_Network_getitem pm_Network_getitem an_Network_getitem cd_Network_getitem ct_Network_getitem), sl_Network_getitem⟩)
    (c_Network_getitem : PySem.W.codeIn K cd_Network_getitem "Network.__getitem__" = true)
    (k_Network_getitem : PySem.W.keepIn K (.ref f_Network_getitem) = true)
    (a_Network_contains : PySem.W.findIn K (.ref f_Network) "__contains__" = some (some (.ref f_Network_contains)))
    (i_Network_contains : PySem.W.isFn K (.ref f_Network_contains) = true)
    (l_Network_contains : K.lookup f_Network_contains = some ⟨oc_Network_contains, od_Network_contains, .func (PySem.W.fnOf "__contains__" "Network.__contains__" (defArgs s_Network_contains) (defBody s_Network_contains) (defScope s_Network_contains) .none kV_Network_contains dc_Network_contains pm_Network_contains an_Network_contains cd_Network_contains ct_Network_contains), sl_Network_contains⟩)
    (c_Network_contains : PySem.W.codeIn K cd_Network_contains "Network.__contains__" = true)
    (k_Network_contains : PySem.W.keepIn K (.ref f_Network_contains) = true)
    (rd_Network : PySem.W.readsIn K f_Network (.type "type") = true)
    (ga_Network : PySem.W.specialIn K (.ref f_Network) "__getattribute__" = some (some (.builtin "type.__getattribute__")))
    (cw_Network_MOST_LINKS : PySem.W.findCls K (.ref f_Network) (.type "type") "MOST_LINKS" = some (.val (.int 10 tv_Network_MOST_LINKS)))
    (cw_Network_MOST_PLACES : PySem.W.findCls K (.ref f_Network) (.type "type") "MOST_PLACES" = some (.val (.int 8 tv_Network_MOST_PLACES)))
    (fi_Network_getitem : PySem.W.fnIn K f_Network_getitem = true)
    (ns_Network_getitem : PySem.W.noSeq K f_Network = true)
    (fi_Network_contains : PySem.W.fnIn K f_Network_contains = true)
    (ns_Network_contains : PySem.W.noSeq K f_Network = true)
    (x_BadName : ∃ nm q N bs bm sn sub ab col dd k0 k1 k2 k3 k5, K.lookup f_BadName = some (excClassObj nm q f_BadName N bs bm true sn sub ab col dd k0 k1 k2 k3 k5 "ValueError.__new__") ∧ PySem.HandSPX.refsVE bm = true)
    (xs_BadName : PySem.W.findIn K (.ref f_BadName) "__setattr__" = some (some (.builtin "object.__setattr__")))
    (xe_BadName : PySem.W.subIn K (.ref f_BadName) (.type "BaseException") = some true)
    (xt_BadName : PySem.W.typeIn K (.ref f_BadName) = some (.type "type"))
    (xk_BadName : PySem.W.keepIn K (.ref f_BadName) = true)
    (xg_BadName : PySem.W.findIn K (.ref f_BadName) "__getattribute__" = some (some (.builtin "BaseException.__getattribute__")))
    (xh_BadName : PySem.W.findIn K (.ref f_BadName) "__getattr__" = some none)
    (xd_BadName : PySem.W.hasDictIn K f_BadName = true)
    (xc_BadName : PySem.W.findIn K (.ref f_BadName) "__class__" = some (some (.builtin "object.__class__")))
    (xm_BadName : PySem.W.mroIn K f_BadName (.type "object") = some true)
    (xi_BadName : PySem.W.isClsIn K f_BadName = true)
    (xf_BadName : PySem.W.typeIn K (.ref f_BadName_init) = some (.type "function"))
    (no_BadName_name : PySem.W.findIn K (.ref f_BadName) "name" = some none)
    (x_DuplicateName : ∃ nm q N bs bm sn sub ab col dd k0 k1 k2 k3 k5, K.lookup f_DuplicateName = some (excClassObj nm q f_DuplicateName N bs bm true sn sub ab col dd k0 k1 k2 k3 k5 "ValueError.__new__") ∧ PySem.HandSPX.refsVE bm = true)
    (xs_DuplicateName : PySem.W.findIn K (.ref f_DuplicateName) "__setattr__" = some (some (.builtin "object.__setattr__")))
    (xe_DuplicateName : PySem.W.subIn K (.ref f_DuplicateName) (.type "BaseException") = some true)
    (xt_DuplicateName : PySem.W.typeIn K (.ref f_DuplicateName) = some (.type "type"))
    (xk_DuplicateName : PySem.W.keepIn K (.ref f_DuplicateName) = true)
    (xg_DuplicateName : PySem.W.findIn K (.ref f_DuplicateName) "__getattribute__" = some (some (.builtin "BaseException.__getattribute__")))
    (xh_DuplicateName : PySem.W.findIn K (.ref f_DuplicateName) "__getattr__" = some none)
    (xd_DuplicateName : PySem.W.hasDictIn K f_DuplicateName = true)
    (xc_DuplicateName : PySem.W.findIn K (.ref f_DuplicateName) "__class__" = some (some (.builtin "object.__class__")))
    (xm_DuplicateName : PySem.W.mroIn K f_DuplicateName (.type "object") = some true)
    (xi_DuplicateName : PySem.W.isClsIn K f_DuplicateName = true)
    (xf_DuplicateName : PySem.W.typeIn K (.ref f_DuplicateName_init) = some (.type "function"))
    (no_DuplicateName_name : PySem.W.findIn K (.ref f_DuplicateName) "name" = some none)
    (x_UnknownName : ∃ nm q N bs bm sn sub ab col dd k0 k1 k2 k3 k5, K.lookup f_UnknownName = some (excClassObj nm q f_UnknownName N bs bm true sn sub ab col dd k0 k1 k2 k3 k5 "ValueError.__new__") ∧ PySem.HandSPX.refsVE bm = true)
    (xs_UnknownName : PySem.W.findIn K (.ref f_UnknownName) "__setattr__" = some (some (.builtin "object.__setattr__")))
    (xe_UnknownName : PySem.W.subIn K (.ref f_UnknownName) (.type "BaseException") = some true)
    (xt_UnknownName : PySem.W.typeIn K (.ref f_UnknownName) = some (.type "type"))
    (xk_UnknownName : PySem.W.keepIn K (.ref f_UnknownName) = true)
    (xg_UnknownName : PySem.W.findIn K (.ref f_UnknownName) "__getattribute__" = some (some (.builtin "BaseException.__getattribute__")))
    (xh_UnknownName : PySem.W.findIn K (.ref f_UnknownName) "__getattr__" = some none)
    (xd_UnknownName : PySem.W.hasDictIn K f_UnknownName = true)
    (xc_UnknownName : PySem.W.findIn K (.ref f_UnknownName) "__class__" = some (some (.builtin "object.__class__")))
    (xm_UnknownName : PySem.W.mroIn K f_UnknownName (.type "object") = some true)
    (xi_UnknownName : PySem.W.isClsIn K f_UnknownName = true)
    (xf_UnknownName : PySem.W.typeIn K (.ref f_UnknownName_init) = some (.type "function"))
    (no_UnknownName_name : PySem.W.findIn K (.ref f_UnknownName) "name" = some none)
    (x_BadCount : ∃ nm q N bs bm sn sub ab col dd k0 k1 k2 k3 k5, K.lookup f_BadCount = some (excClassObj nm q f_BadCount N bs bm true sn sub ab col dd k0 k1 k2 k3 k5 "ValueError.__new__") ∧ PySem.HandSPX.refsVE bm = true)
    (xs_BadCount : PySem.W.findIn K (.ref f_BadCount) "__setattr__" = some (some (.builtin "object.__setattr__")))
    (xe_BadCount : PySem.W.subIn K (.ref f_BadCount) (.type "BaseException") = some true)
    (xt_BadCount : PySem.W.typeIn K (.ref f_BadCount) = some (.type "type"))
    (xk_BadCount : PySem.W.keepIn K (.ref f_BadCount) = true)
    (xg_BadCount : PySem.W.findIn K (.ref f_BadCount) "__getattribute__" = some (some (.builtin "BaseException.__getattribute__")))
    (xh_BadCount : PySem.W.findIn K (.ref f_BadCount) "__getattr__" = some none)
    (xd_BadCount : PySem.W.hasDictIn K f_BadCount = true)
    (xc_BadCount : PySem.W.findIn K (.ref f_BadCount) "__class__" = some (some (.builtin "object.__class__")))
    (xm_BadCount : PySem.W.mroIn K f_BadCount (.type "object") = some true)
    (xi_BadCount : PySem.W.isClsIn K f_BadCount = true)
    (xf_BadCount : PySem.W.typeIn K (.ref f_BadCount_init) = some (.type "function"))
    (no_BadCount_count : PySem.W.findIn K (.ref f_BadCount) "count" = some none)
    (x_HasRound : ∃ nm q N bs bm sn sub ab col dd k0 k1 k2 k3 k5, K.lookup f_HasRound = some (excClassObj nm q f_HasRound N bs bm true sn sub ab col dd k0 k1 k2 k3 k5 "ValueError.__new__") ∧ PySem.HandSPX.refsVE bm = true)
    (xs_HasRound : PySem.W.findIn K (.ref f_HasRound) "__setattr__" = some (some (.builtin "object.__setattr__")))
    (xe_HasRound : PySem.W.subIn K (.ref f_HasRound) (.type "BaseException") = some true)
    (xt_HasRound : PySem.W.typeIn K (.ref f_HasRound) = some (.type "type"))
    (xk_HasRound : PySem.W.keepIn K (.ref f_HasRound) = true)
    (xg_HasRound : PySem.W.findIn K (.ref f_HasRound) "__getattribute__" = some (some (.builtin "BaseException.__getattribute__")))
    (xh_HasRound : PySem.W.findIn K (.ref f_HasRound) "__getattr__" = some none)
    (xd_HasRound : PySem.W.hasDictIn K f_HasRound = true)
    (xc_HasRound : PySem.W.findIn K (.ref f_HasRound) "__class__" = some (some (.builtin "object.__class__")))
    (xm_HasRound : PySem.W.mroIn K f_HasRound (.type "object") = some true)
    (xi_HasRound : PySem.W.isClsIn K f_HasRound = true)
    (xf_HasRound : PySem.W.typeIn K (.ref f_HasRound_init) = some (.type "function"))
    (no_HasRound_name : PySem.W.findIn K (.ref f_HasRound) "name" = some none)
    (x_UselessLink : ∃ nm q N bs bm sn sub ab col dd k0 k1 k2 k3 k5, K.lookup f_UselessLink = some (excClassObj nm q f_UselessLink N bs bm true sn sub ab col dd k0 k1 k2 k3 k5 "ValueError.__new__") ∧ PySem.HandSPX.refsVE bm = true)
    (xs_UselessLink : PySem.W.findIn K (.ref f_UselessLink) "__setattr__" = some (some (.builtin "object.__setattr__")))
    (xe_UselessLink : PySem.W.subIn K (.ref f_UselessLink) (.type "BaseException") = some true)
    (xt_UselessLink : PySem.W.typeIn K (.ref f_UselessLink) = some (.type "type"))
    (xk_UselessLink : PySem.W.keepIn K (.ref f_UselessLink) = true)
    (xg_UselessLink : PySem.W.findIn K (.ref f_UselessLink) "__getattribute__" = some (some (.builtin "BaseException.__getattribute__")))
    (xh_UselessLink : PySem.W.findIn K (.ref f_UselessLink) "__getattr__" = some none)
    (xd_UselessLink : PySem.W.hasDictIn K f_UselessLink = true)
    (xc_UselessLink : PySem.W.findIn K (.ref f_UselessLink) "__class__" = some (some (.builtin "object.__class__")))
    (xm_UselessLink : PySem.W.mroIn K f_UselessLink (.type "object") = some true)
    (xi_UselessLink : PySem.W.isClsIn K f_UselessLink = true)
    (xf_UselessLink : PySem.W.typeIn K (.ref f_UselessLink_init) = some (.type "function"))
    (no_UselessLink_name : PySem.W.findIn K (.ref f_UselessLink) "name" = some none)
    (q_BRIDGED : PySem.W.nsIn K mainGlobals "BRIDGED" = some (some (.str ("bridged" : Str) t_BRIDGED)))
    (q_CHAIN : PySem.W.nsIn K mainGlobals "CHAIN" = some (some (.str ("chain" : Str) t_CHAIN)))
    (q_DIGITS : PySem.W.nsIn K mainGlobals "DIGITS" = some (some (.str ("0123456789" : Str) t_DIGITS)))
    (q_FORK : PySem.W.nsIn K mainGlobals "FORK" = some (some (.str ("fork" : Str) t_FORK)))
    (q_LETTERS : PySem.W.nsIn K mainGlobals "LETTERS" = some (some (.str ("abcdefghijklmnopqrstuvwxyz" : Str) t_LETTERS)))
    (q_LINK : PySem.W.nsIn K mainGlobals "LINK" = some (some (.str ("link" : Str) t_LINK)))
    (q_LONGEST_NAME : PySem.W.nsIn K mainGlobals "LONGEST_NAME" = some (some (.int 6 t_LONGEST_NAME)))
    (q_TAIL : PySem.W.nsIn K mainGlobals "TAIL" = some (some (.str ("tail" : Str) t_TAIL)))
    (q_WOVEN : PySem.W.nsIn K mainGlobals "WOVEN" = some (some (.str ("woven" : Str) t_WOVEN)))
    (z_abs : PySem.W.nsIn K mainGlobals "abs" = some none)
    (z_all : PySem.W.nsIn K mainGlobals "all" = some none)
    (z_any : PySem.W.nsIn K mainGlobals "any" = some none)
    (z_bool : PySem.W.nsIn K mainGlobals "bool" = some none)
    (z_enumerate : PySem.W.nsIn K mainGlobals "enumerate" = some none)
    (z_int : PySem.W.nsIn K mainGlobals "int" = some none)
    (z_isinstance : PySem.W.nsIn K mainGlobals "isinstance" = some none)
    (z_len : PySem.W.nsIn K mainGlobals "len" = some none)
    (z_list : PySem.W.nsIn K mainGlobals "list" = some none)
    (z_max : PySem.W.nsIn K mainGlobals "max" = some none)
    (z_min : PySem.W.nsIn K mainGlobals "min" = some none)
    (z_range : PySem.W.nsIn K mainGlobals "range" = some none)
    (z_set : PySem.W.nsIn K mainGlobals "set" = some none)
    (z_sorted : PySem.W.nsIn K mainGlobals "sorted" = some none)
    (z_tuple : PySem.W.nsIn K mainGlobals "tuple" = some none)
    (z_zip : PySem.W.nsIn K mainGlobals "zip" = some none)
    (a_law : PySem.W.nsIn K mainGlobals "law" = some (some (.ref f_law)))
    (l_law : K.lookup f_law = some ⟨oc_law, od_law, .func (PySem.W.fnOf "law" "law" (defArgs s_law) (defBody s_law) (defScope s_law) .none kV_law dc_law pm_law an_law cd_law ct_law), sl_law⟩)
    (c_law : PySem.W.codeIn K cd_law "law" = true)
    (k_law : PySem.W.keepIn K (.ref f_law) = true)
    : ∃ fd : FuncData, (∀ (s : Shared) (v : Value), BindsTo s fd ⟨[v], []⟩ [("_law_script", v)]) ∧ ∀ base : Heap, K.In base → base.Ns mainGlobals mg → FnOk l.prog w K mg base CX0 102 fa fd ["_law_script"] (spLaw K) := by
  have e := hfa.symm.trans (PySem.W.mg_of X G a_law)
  cases e
  have T : Txt K mg := {
    f_BadName := f_BadName,
    m_BadName := PySem.W.mg_of X G a_BadName,
    f_DuplicateName := f_DuplicateName,
    m_DuplicateName := PySem.W.mg_of X G a_DuplicateName,
    f_UnknownName := f_UnknownName,
    m_UnknownName := PySem.W.mg_of X G a_UnknownName,
    f_BadCount := f_BadCount,
    m_BadCount := PySem.W.mg_of X G a_BadCount,
    f_HasRound := f_HasRound,
    m_HasRound := PySem.W.mg_of X G a_HasRound,
    f_UselessLink := f_UselessLink,
    m_UselessLink := PySem.W.mg_of X G a_UselessLink,
    f_Network := f_Network,
    m_Network := PySem.W.mg_of X G a_Network,
    cl_Network := ⟨pg_Network, hd_Network, po_Network, sa_Network⟩,
    ic_Network := ⟨⟨pg_Network, hd_Network, po_Network, sa_Network⟩, hc_Network, hn_class, ht_class, mo_Network, kit_self⟩,
    na_Network_start := na_Network_start,
    na_Network_end := na_Network_end,
    na_Network_links := na_Network_links,
    na_Network_places := na_Network_places,
    na_Network_behind := na_Network_behind,
    f_valid_name := f_valid_name,
    d_valid_name := PySem.W.fnOf "valid_name" "valid_name" (defArgs s_valid_name) (defBody s_valid_name) (defScope s_valid_name) .none kV_valid_name dc_valid_name pm_valid_name an_valid_name cd_valid_name ct_valid_name,
    F_valid_name := fun_mk (st := s_valid_name) l_valid_name c_valid_name k_valid_name,
    b_valid_name := (fun_mk (st := s_valid_name) l_valid_name c_valid_name k_valid_name).binds (ps := ["text"]) fun _ _ _ _ _ _ us hl => match us, hl with | [_], _ => rfl,
    m_valid_name := PySem.W.mg_of X G a_valid_name,
    f_stops := f_stops,
    d_stops := PySem.W.fnOf "stops" "stops" (defArgs s_stops) (defBody s_stops) (defScope s_stops) .none kV_stops dc_stops pm_stops an_stops cd_stops ct_stops,
    F_stops := fun_mk (st := s_stops) l_stops c_stops k_stops,
    b_stops := (fun_mk (st := s_stops) l_stops c_stops k_stops).binds (ps := ["network", "names", "first"]) fun _ _ _ _ _ _ us hl => match us, hl with | [_, _, _], _ => rfl,
    m_stops := PySem.W.mg_of X G a_stops,
    f_connects := f_connects,
    d_connects := PySem.W.fnOf "connects" "connects" (defArgs s_connects) (defBody s_connects) (defScope s_connects) .none kV_connects dc_connects pm_connects an_connects cd_connects ct_connects,
    F_connects := fun_mk (st := s_connects) l_connects c_connects k_connects,
    b_connects := (fun_mk (st := s_connects) l_connects c_connects k_connects).binds (ps := ["network", "names", "first", "last"]) fun _ _ _ _ _ _ us hl => match us, hl with | [_, _, _, _], _ => rfl,
    m_connects := PySem.W.mg_of X G a_connects,
    f_ordered_places := f_ordered_places,
    d_ordered_places := PySem.W.fnOf "ordered_places" "ordered_places" (defArgs s_ordered_places) (defBody s_ordered_places) (defScope s_ordered_places) .none kV_ordered_places dc_ordered_places pm_ordered_places an_ordered_places cd_ordered_places ct_ordered_places,
    F_ordered_places := fun_mk (st := s_ordered_places) l_ordered_places c_ordered_places k_ordered_places,
    b_ordered_places := (fun_mk (st := s_ordered_places) l_ordered_places c_ordered_places k_ordered_places).binds (ps := ["table", "start", "end"]) fun _ _ _ _ _ _ us hl => match us, hl with | [_, _, _], _ => rfl,
    m_ordered_places := PySem.W.mg_of X G a_ordered_places,
    f_places_behind := f_places_behind,
    d_places_behind := PySem.W.fnOf "places_behind" "places_behind" (defArgs s_places_behind) (defBody s_places_behind) (defScope s_places_behind) .none kV_places_behind dc_places_behind pm_places_behind an_places_behind cd_places_behind ct_places_behind,
    F_places_behind := fun_mk (st := s_places_behind) l_places_behind c_places_behind k_places_behind,
    b_places_behind := (fun_mk (st := s_places_behind) l_places_behind c_places_behind k_places_behind).binds (ps := ["table", "first"]) fun _ _ _ _ _ _ us hl => match us, hl with | [_, _], _ => rfl,
    m_places_behind := PySem.W.mg_of X G a_places_behind,
    f_useful_names := f_useful_names,
    d_useful_names := PySem.W.fnOf "useful_names" "useful_names" (defArgs s_useful_names) (defBody s_useful_names) (defScope s_useful_names) .none kV_useful_names dc_useful_names pm_useful_names an_useful_names cd_useful_names ct_useful_names,
    F_useful_names := fun_mk (st := s_useful_names) l_useful_names c_useful_names k_useful_names,
    b_useful_names := (fun_mk (st := s_useful_names) l_useful_names c_useful_names k_useful_names).binds (ps := ["table", "start", "end"]) fun _ _ _ _ _ _ us hl => match us, hl with | [_, _, _], _ => rfl,
    m_useful_names := PySem.W.mg_of X G a_useful_names,
    f_check_ends := f_check_ends,
    d_check_ends := PySem.W.fnOf "check_ends" "check_ends" (defArgs s_check_ends) (defBody s_check_ends) (defScope s_check_ends) .none kV_check_ends dc_check_ends pm_check_ends an_check_ends cd_check_ends ct_check_ends,
    F_check_ends := fun_mk (st := s_check_ends) l_check_ends c_check_ends k_check_ends,
    b_check_ends := (fun_mk (st := s_check_ends) l_check_ends c_check_ends k_check_ends).binds (ps := ["start", "end"]) fun _ _ _ _ _ _ us hl => match us, hl with | [_, _], _ => rfl,
    m_check_ends := PySem.W.mg_of X G a_check_ends,
    f_check_names := f_check_names,
    d_check_names := PySem.W.fnOf "check_names" "check_names" (defArgs s_check_names) (defBody s_check_names) (defScope s_check_names) .none kV_check_names dc_check_names pm_check_names an_check_names cd_check_names ct_check_names,
    F_check_names := fun_mk (st := s_check_names) l_check_names c_check_names k_check_names,
    b_check_names := (fun_mk (st := s_check_names) l_check_names c_check_names k_check_names).binds (ps := ["links"]) fun _ _ _ _ _ _ us hl => match us, hl with | [_], _ => rfl,
    m_check_names := PySem.W.mg_of X G a_check_names,
    f_check_rounds := f_check_rounds,
    d_check_rounds := PySem.W.fnOf "check_rounds" "check_rounds" (defArgs s_check_rounds) (defBody s_check_rounds) (defScope s_check_rounds) .none kV_check_rounds dc_check_rounds pm_check_rounds an_check_rounds cd_check_rounds ct_check_rounds,
    F_check_rounds := fun_mk (st := s_check_rounds) l_check_rounds c_check_rounds k_check_rounds,
    b_check_rounds := (fun_mk (st := s_check_rounds) l_check_rounds c_check_rounds k_check_rounds).binds (ps := ["table"]) fun _ _ _ _ _ _ us hl => match us, hl with | [_], _ => rfl,
    m_check_rounds := PySem.W.mg_of X G a_check_rounds,
    f_check_use := f_check_use,
    d_check_use := PySem.W.fnOf "check_use" "check_use" (defArgs s_check_use) (defBody s_check_use) (defScope s_check_use) .none kV_check_use dc_check_use pm_check_use an_check_use cd_check_use ct_check_use,
    F_check_use := fun_mk (st := s_check_use) l_check_use c_check_use k_check_use,
    b_check_use := (fun_mk (st := s_check_use) l_check_use c_check_use k_check_use).binds (ps := ["table", "start", "end"]) fun _ _ _ _ _ _ us hl => match us, hl with | [_, _, _], _ => rfl,
    m_check_use := PySem.W.mg_of X G a_check_use,
    f_check_pair := f_check_pair,
    d_check_pair := PySem.W.fnOf "check_pair" "check_pair" (defArgs s_check_pair) (defBody s_check_pair) (defScope s_check_pair) .none kV_check_pair dc_check_pair pm_check_pair an_check_pair cd_check_pair ct_check_pair,
    F_check_pair := fun_mk (st := s_check_pair) l_check_pair c_check_pair k_check_pair,
    b_check_pair := (fun_mk (st := s_check_pair) l_check_pair c_check_pair k_check_pair).binds (ps := ["network", "pair"]) fun _ _ _ _ _ _ us hl => match us, hl with | [_, _], _ => rfl,
    m_check_pair := PySem.W.mg_of X G a_check_pair,
    f_apart := f_apart,
    d_apart := PySem.W.fnOf "apart" "apart" (defArgs s_apart) (defBody s_apart) (defScope s_apart) .none kV_apart dc_apart pm_apart an_apart cd_apart ct_apart,
    F_apart := fun_mk (st := s_apart) l_apart c_apart k_apart,
    b_apart := (fun_mk (st := s_apart) l_apart c_apart k_apart).binds (ps := ["rows"]) fun _ _ _ _ _ _ us hl => match us, hl with | [_], _ => rfl,
    m_apart := PySem.W.mg_of X G a_apart,
    f_check_paper := f_check_paper,
    d_check_paper := PySem.W.fnOf "check_paper" "check_paper" (defArgs s_check_paper) (defBody s_check_paper) (defScope s_check_paper) .none kV_check_paper dc_check_paper pm_check_paper an_check_paper cd_check_paper ct_check_paper,
    F_check_paper := fun_mk (st := s_check_paper) l_check_paper c_check_paper k_check_paper,
    b_check_paper := (fun_mk (st := s_check_paper) l_check_paper c_check_paper k_check_paper).binds (ps := ["network", "paper"]) fun _ _ _ _ _ _ us hl => match us, hl with | [_, _], _ => rfl,
    m_check_paper := PySem.W.mg_of X G a_check_paper,
    f_is_right := f_is_right,
    d_is_right := PySem.W.fnOf "is_right" "is_right" (defArgs s_is_right) (defBody s_is_right) (defScope s_is_right) .none kV_is_right dc_is_right pm_is_right an_is_right cd_is_right ct_is_right,
    F_is_right := fun_mk (st := s_is_right) l_is_right c_is_right k_is_right,
    b_is_right := (fun_mk (st := s_is_right) l_is_right c_is_right k_is_right).binds (ps := ["network", "plan"]) fun _ _ _ _ _ _ us hl => match us, hl with | [_, _], _ => rfl,
    m_is_right := PySem.W.mg_of X G a_is_right,
    f_is_formed := f_is_formed,
    d_is_formed := PySem.W.fnOf "is_formed" "is_formed" (defArgs s_is_formed) (defBody s_is_formed) (defScope s_is_formed) .none kV_is_formed dc_is_formed pm_is_formed an_is_formed cd_is_formed ct_is_formed,
    F_is_formed := fun_mk (st := s_is_formed) l_is_formed c_is_formed k_is_formed,
    b_is_formed := (fun_mk (st := s_is_formed) l_is_formed c_is_formed k_is_formed).binds (ps := ["plan"]) fun _ _ _ _ _ _ us hl => match us, hl with | [_], _ => rfl,
    m_is_formed := PySem.W.mg_of X G a_is_formed,
    f_is_tailed := f_is_tailed,
    d_is_tailed := PySem.W.fnOf "is_tailed" "is_tailed" (defArgs s_is_tailed) (defBody s_is_tailed) (defScope s_is_tailed) .none kV_is_tailed dc_is_tailed pm_is_tailed an_is_tailed cd_is_tailed ct_is_tailed,
    F_is_tailed := fun_mk (st := s_is_tailed) l_is_tailed c_is_tailed k_is_tailed,
    b_is_tailed := (fun_mk (st := s_is_tailed) l_is_tailed c_is_tailed k_is_tailed).binds (ps := ["plan"]) fun _ _ _ _ _ _ us hl => match us, hl with | [_], _ => rfl,
    m_is_tailed := PySem.W.mg_of X G a_is_tailed,
    f_plan_ends := f_plan_ends,
    d_plan_ends := PySem.W.fnOf "plan_ends" "plan_ends" (defArgs s_plan_ends) (defBody s_plan_ends) (defScope s_plan_ends) .none kV_plan_ends dc_plan_ends pm_plan_ends an_plan_ends cd_plan_ends ct_plan_ends,
    F_plan_ends := fun_mk (st := s_plan_ends) l_plan_ends c_plan_ends k_plan_ends,
    b_plan_ends := (fun_mk (st := s_plan_ends) l_plan_ends c_plan_ends k_plan_ends).binds (ps := ["network", "plan"]) fun _ _ _ _ _ _ us hl => match us, hl with | [_, _], _ => rfl,
    m_plan_ends := PySem.W.mg_of X G a_plan_ends,
    f_plan_joints := f_plan_joints,
    d_plan_joints := PySem.W.fnOf "plan_joints" "plan_joints" (defArgs s_plan_joints) (defBody s_plan_joints) (defScope s_plan_joints) .none kV_plan_joints dc_plan_joints pm_plan_joints an_plan_joints cd_plan_joints ct_plan_joints,
    F_plan_joints := fun_mk (st := s_plan_joints) l_plan_joints c_plan_joints k_plan_joints,
    b_plan_joints := (fun_mk (st := s_plan_joints) l_plan_joints c_plan_joints k_plan_joints).binds (ps := ["network", "plan"]) fun _ _ _ _ _ _ us hl => match us, hl with | [_, _], _ => rfl,
    m_plan_joints := PySem.W.mg_of X G a_plan_joints,
    f_start := f_start,
    d_start := PySem.W.fnOf "_law_start" "_law_start" (defArgs s_start) (defBody s_start) (defScope s_start) .none kV_start dc_start pm_start an_start cd_start ct_start,
    F_start := fun_mk (st := s_start) l_start c_start k_start,
    b_start := (fun_mk (st := s_start) l_start c_start k_start).binds (ps := ["_law_script"]) fun _ _ _ _ _ _ us hl => match us, hl with | [_], _ => rfl,
    m_start := PySem.W.mg_of X G a_start,
    f_take := f_take,
    d_take := PySem.W.fnOf "_law_take" "_law_take" (defArgs s_take) (defBody s_take) (defScope s_take) .none kV_take dc_take pm_take an_take cd_take ct_take,
    F_take := fun_mk (st := s_take) l_take c_take k_take,
    b_take := (fun_mk (st := s_take) l_take c_take k_take).binds (ps := ["_law_state", "_law_limit"]) fun _ _ _ _ _ _ us hl => match us, hl with | [_, _], _ => rfl,
    m_take := PySem.W.mg_of X G a_take,
    f_planted := f_planted,
    d_planted := PySem.W.fnOf "_law_planted" "_law_planted" (defArgs s_planted) (defBody s_planted) (defScope s_planted) .none kV_planted dc_planted pm_planted an_planted cd_planted ct_planted,
    F_planted := fun_mk (st := s_planted) l_planted c_planted k_planted,
    b_planted := (fun_mk (st := s_planted) l_planted c_planted k_planted).binds (ps := ["_law_state"]) fun _ _ _ _ _ _ us hl => match us, hl with | [_], _ => rfl,
    m_planted := PySem.W.mg_of X G a_planted,
    f_shuffled := f_shuffled,
    d_shuffled := PySem.W.fnOf "_law_shuffled" "_law_shuffled" (defArgs s_shuffled) (defBody s_shuffled) (defScope s_shuffled) .none kV_shuffled dc_shuffled pm_shuffled an_shuffled cd_shuffled ct_shuffled,
    F_shuffled := fun_mk (st := s_shuffled) l_shuffled c_shuffled k_shuffled,
    b_shuffled := (fun_mk (st := s_shuffled) l_shuffled c_shuffled k_shuffled).binds (ps := ["_law_state", "_law_items"]) fun _ _ _ _ _ _ us hl => match us, hl with | [_, _], _ => rfl,
    m_shuffled := PySem.W.mg_of X G a_shuffled,
    f_places := f_places,
    d_places := PySem.W.fnOf "_law_places" "_law_places" (defArgs s_places) (defBody s_places) (defScope s_places) .none kV_places dc_places pm_places an_places cd_places ct_places,
    F_places := fun_mk (st := s_places) l_places c_places k_places,
    b_places := (fun_mk (st := s_places) l_places c_places k_places).binds (ps := ["_law_links", "_law_names"]) fun _ _ _ _ _ _ us hl => match us, hl with | [_, _], _ => rfl,
    m_places := PySem.W.mg_of X G a_places,
    f_between := f_between,
    d_between := PySem.W.fnOf "_law_between" "_law_between" (defArgs s_between) (defBody s_between) (defScope s_between) .none kV_between dc_between pm_between an_between cd_between ct_between,
    F_between := fun_mk (st := s_between) l_between c_between k_between,
    b_between := (fun_mk (st := s_between) l_between c_between k_between).binds (ps := ["_law_row", "_law_first", "_law_last"]) fun _ _ _ _ _ _ us hl => match us, hl with | [_, _, _], _ => rfl,
    m_between := PySem.W.mg_of X G a_between,
    f_pair := f_pair,
    d_pair := PySem.W.fnOf "_law_pair" "_law_pair" (defArgs s_pair) (defBody s_pair) (defScope s_pair) .none kV_pair dc_pair pm_pair an_pair cd_pair ct_pair,
    F_pair := fun_mk (st := s_pair) l_pair c_pair k_pair,
    b_pair := (fun_mk (st := s_pair) l_pair c_pair k_pair).binds (ps := ["_law_links", "_law_start_here", "_law_end", "_law_seven"]) fun _ _ _ _ _ _ us hl => match us, hl with | [_, _, _, _], _ => rfl,
    m_pair := PySem.W.mg_of X G a_pair,
    f_merged := f_merged,
    d_merged := PySem.W.fnOf "_law_merged" "_law_merged" (defArgs s_merged) (defBody s_merged) (defScope s_merged) .none kV_merged dc_merged pm_merged an_merged cd_merged ct_merged,
    F_merged := fun_mk (st := s_merged) l_merged c_merged k_merged,
    b_merged := (fun_mk (st := s_merged) l_merged c_merged k_merged).binds (ps := ["_law_state", "_law_links", "_law_rows"]) fun _ _ _ _ _ _ us hl => match us, hl with | [_, _, _], _ => rfl,
    m_merged := PySem.W.mg_of X G a_merged,
    f_changed := f_changed,
    d_changed := PySem.W.fnOf "_law_changed" "_law_changed" (defArgs s_changed) (defBody s_changed) (defScope s_changed) .none kV_changed dc_changed pm_changed an_changed cd_changed ct_changed,
    F_changed := fun_mk (st := s_changed) l_changed c_changed k_changed,
    b_changed := (fun_mk (st := s_changed) l_changed c_changed k_changed).binds (ps := ["_law_state", "_law_names", "_law_seven"]) fun _ _ _ _ _ _ us hl => match us, hl with | [_, _, _], _ => rfl,
    m_changed := PySem.W.mg_of X G a_changed,
    f_BadName_init := f_BadName_init,
    d_BadName_init := PySem.W.fnOf "__init__" "BadName.__init__" (defArgs s_BadName_init) (defBody s_BadName_init) (defScope s_BadName_init) .none kV_BadName_init dc_BadName_init pm_BadName_init an_BadName_init cd_BadName_init ct_BadName_init,
    F_BadName_init := fun_mk (st := s_BadName_init) l_BadName_init c_BadName_init k_BadName_init,
    b_BadName_init := (fun_mk (st := s_BadName_init) l_BadName_init c_BadName_init k_BadName_init).binds (ps := ["self", "name"]) fun _ _ _ _ _ _ us hl => match us, hl with | [_, _], _ => rfl,
    a_BadName_init := a_BadName_init,
    i_BadName_init := i_BadName_init,
    f_DuplicateName_init := f_DuplicateName_init,
    d_DuplicateName_init := PySem.W.fnOf "__init__" "DuplicateName.__init__" (defArgs s_DuplicateName_init) (defBody s_DuplicateName_init) (defScope s_DuplicateName_init) .none kV_DuplicateName_init dc_DuplicateName_init pm_DuplicateName_init an_DuplicateName_init cd_DuplicateName_init ct_DuplicateName_init,
    F_DuplicateName_init := fun_mk (st := s_DuplicateName_init) l_DuplicateName_init c_DuplicateName_init k_DuplicateName_init,
    b_DuplicateName_init := (fun_mk (st := s_DuplicateName_init) l_DuplicateName_init c_DuplicateName_init k_DuplicateName_init).binds (ps := ["self", "name"]) fun _ _ _ _ _ _ us hl => match us, hl with | [_, _], _ => rfl,
    a_DuplicateName_init := a_DuplicateName_init,
    i_DuplicateName_init := i_DuplicateName_init,
    f_UnknownName_init := f_UnknownName_init,
    d_UnknownName_init := PySem.W.fnOf "__init__" "UnknownName.__init__" (defArgs s_UnknownName_init) (defBody s_UnknownName_init) (defScope s_UnknownName_init) .none kV_UnknownName_init dc_UnknownName_init pm_UnknownName_init an_UnknownName_init cd_UnknownName_init ct_UnknownName_init,
    F_UnknownName_init := fun_mk (st := s_UnknownName_init) l_UnknownName_init c_UnknownName_init k_UnknownName_init,
    b_UnknownName_init := (fun_mk (st := s_UnknownName_init) l_UnknownName_init c_UnknownName_init k_UnknownName_init).binds (ps := ["self", "name"]) fun _ _ _ _ _ _ us hl => match us, hl with | [_, _], _ => rfl,
    a_UnknownName_init := a_UnknownName_init,
    i_UnknownName_init := i_UnknownName_init,
    f_BadCount_init := f_BadCount_init,
    d_BadCount_init := PySem.W.fnOf "__init__" "BadCount.__init__" (defArgs s_BadCount_init) (defBody s_BadCount_init) (defScope s_BadCount_init) .none kV_BadCount_init dc_BadCount_init pm_BadCount_init an_BadCount_init cd_BadCount_init ct_BadCount_init,
    F_BadCount_init := fun_mk (st := s_BadCount_init) l_BadCount_init c_BadCount_init k_BadCount_init,
    b_BadCount_init := (fun_mk (st := s_BadCount_init) l_BadCount_init c_BadCount_init k_BadCount_init).binds (ps := ["self", "count"]) fun _ _ _ _ _ _ us hl => match us, hl with | [_, _], _ => rfl,
    a_BadCount_init := a_BadCount_init,
    i_BadCount_init := i_BadCount_init,
    f_HasRound_init := f_HasRound_init,
    d_HasRound_init := PySem.W.fnOf "__init__" "HasRound.__init__" (defArgs s_HasRound_init) (defBody s_HasRound_init) (defScope s_HasRound_init) .none kV_HasRound_init dc_HasRound_init pm_HasRound_init an_HasRound_init cd_HasRound_init ct_HasRound_init,
    F_HasRound_init := fun_mk (st := s_HasRound_init) l_HasRound_init c_HasRound_init k_HasRound_init,
    b_HasRound_init := (fun_mk (st := s_HasRound_init) l_HasRound_init c_HasRound_init k_HasRound_init).binds (ps := ["self", "name"]) fun _ _ _ _ _ _ us hl => match us, hl with | [_, _], _ => rfl,
    a_HasRound_init := a_HasRound_init,
    i_HasRound_init := i_HasRound_init,
    f_UselessLink_init := f_UselessLink_init,
    d_UselessLink_init := PySem.W.fnOf "__init__" "UselessLink.__init__" (defArgs s_UselessLink_init) (defBody s_UselessLink_init) (defScope s_UselessLink_init) .none kV_UselessLink_init dc_UselessLink_init pm_UselessLink_init an_UselessLink_init cd_UselessLink_init ct_UselessLink_init,
    F_UselessLink_init := fun_mk (st := s_UselessLink_init) l_UselessLink_init c_UselessLink_init k_UselessLink_init,
    b_UselessLink_init := (fun_mk (st := s_UselessLink_init) l_UselessLink_init c_UselessLink_init k_UselessLink_init).binds (ps := ["self", "name"]) fun _ _ _ _ _ _ us hl => match us, hl with | [_, _], _ => rfl,
    a_UselessLink_init := a_UselessLink_init,
    i_UselessLink_init := i_UselessLink_init,
    f_Network_init := f_Network_init,
    d_Network_init := PySem.W.fnOf "__init__" "Network.__init__" (defArgs s_Network_init) (defBody s_Network_init) (defScope s_Network_init) .none kV_Network_init dc_Network_init pm_Network_init an_Network_init cd_Network_init ct_Network_init,
    F_Network_init := fun_mk (st := s_Network_init) l_Network_init c_Network_init k_Network_init,
    b_Network_init := (fun_mk (st := s_Network_init) l_Network_init c_Network_init k_Network_init).binds (ps := ["self", "links", "start", "end"]) fun _ _ _ _ _ _ us hl => match us, hl with | [_, _, _, _], _ => rfl,
    a_Network_init := a_Network_init,
    i_Network_init := i_Network_init,
    mk_Network := ⟨mk_Network, a_Network_init, i_Network_init, kc_Network⟩,
    f_Network_start := f_Network_start,
    d_Network_start := PySem.W.fnOf "start" "Network.start" (defArgs s_Network_start) (defBody s_Network_start) (defScope s_Network_start) .none kV_Network_start dc_Network_start pm_Network_start an_Network_start cd_Network_start ct_Network_start,
    F_Network_start := fun_mk (st := s_Network_start) l_Network_start c_Network_start k_Network_start,
    b_Network_start := (fun_mk (st := s_Network_start) l_Network_start c_Network_start k_Network_start).binds (ps := ["self"]) fun _ _ _ _ _ _ us hl => match us, hl with | [_], _ => rfl,
    p0_Network_start := p_Network_start,
    p_Network_start := ⟨a_Network_start, pg_Network_start, pt_Network_start, ⟨_, pr_Network_start⟩⟩,
    f_Network_end := f_Network_end,
    d_Network_end := PySem.W.fnOf "end" "Network.end" (defArgs s_Network_end) (defBody s_Network_end) (defScope s_Network_end) .none kV_Network_end dc_Network_end pm_Network_end an_Network_end cd_Network_end ct_Network_end,
    F_Network_end := fun_mk (st := s_Network_end) l_Network_end c_Network_end k_Network_end,
    b_Network_end := (fun_mk (st := s_Network_end) l_Network_end c_Network_end k_Network_end).binds (ps := ["self"]) fun _ _ _ _ _ _ us hl => match us, hl with | [_], _ => rfl,
    p0_Network_end := p_Network_end,
    p_Network_end := ⟨a_Network_end, pg_Network_end, pt_Network_end, ⟨_, pr_Network_end⟩⟩,
    f_Network_getitem := f_Network_getitem,
    d_Network_getitem := PySem.W.fnOf "__getitem__" "Network.__getitem__" (defArgs s_Network_getitem) (defBody s_Network_getitem) (defScope s_Network_getitem) .none kV_Network_getitem dc_Network_getitem pm_Network_getitem an_Network_getitem cd_Network_getitem ct_Network_getitem,
    F_Network_getitem := fun_mk (st := s_Network_getitem) l_Network_getitem c_Network_getitem k_Network_getitem,
    b_Network_getitem := (fun_mk (st := s_Network_getitem) l_Network_getitem c_Network_getitem k_Network_getitem).binds (ps := ["self", "name"]) fun _ _ _ _ _ _ us hl => match us, hl with | [_, _], _ => rfl,
    a_Network_getitem := a_Network_getitem,
    i_Network_getitem := i_Network_getitem,
    f_Network_contains := f_Network_contains,
    d_Network_contains := PySem.W.fnOf "__contains__" "Network.__contains__" (defArgs s_Network_contains) (defBody s_Network_contains) (defScope s_Network_contains) .none kV_Network_contains dc_Network_contains pm_Network_contains an_Network_contains cd_Network_contains ct_Network_contains,
    F_Network_contains := fun_mk (st := s_Network_contains) l_Network_contains c_Network_contains k_Network_contains,
    b_Network_contains := (fun_mk (st := s_Network_contains) l_Network_contains c_Network_contains k_Network_contains).binds (ps := ["self", "name"]) fun _ _ _ _ _ _ us hl => match us, hl with | [_, _], _ => rfl,
    a_Network_contains := a_Network_contains,
    i_Network_contains := i_Network_contains,
    cr_Network := ⟨rd_Network, ga_Network⟩,
    tv_Network_MOST_LINKS := tv_Network_MOST_LINKS,
    cv_Network_MOST_LINKS := ⟨cw_Network_MOST_LINKS, ⟨_, rfl⟩⟩,
    tv_Network_MOST_PLACES := tv_Network_MOST_PLACES,
    cv_Network_MOST_PLACES := ⟨cw_Network_MOST_PLACES, ⟨_, rfl⟩⟩,
    dn_Network_getitem := ⟨a_Network_getitem, i_Network_getitem, fi_Network_getitem, ns_Network_getitem⟩,
    dn_Network_contains := ⟨a_Network_contains, i_Network_contains, fi_Network_contains, ns_Network_contains⟩,
    ox_BadName := ⟨x_BadName, xs_BadName, xe_BadName, xt_BadName, xk_BadName⟩,
    ix_BadName := a_BadName_init,
    tx_BadName := xf_BadName,
    xf_BadName := ⟨xg_BadName, xh_BadName, xe_BadName, xd_BadName⟩,
    ec_BadName := ⟨xg_BadName, xh_BadName, xe_BadName, xd_BadName, xc_BadName, hn_class, ht_class, xm_BadName⟩,
    no_BadName_name := no_BadName_name,
    ox_DuplicateName := ⟨x_DuplicateName, xs_DuplicateName, xe_DuplicateName, xt_DuplicateName, xk_DuplicateName⟩,
    ix_DuplicateName := a_DuplicateName_init,
    tx_DuplicateName := xf_DuplicateName,
    xf_DuplicateName := ⟨xg_DuplicateName, xh_DuplicateName, xe_DuplicateName, xd_DuplicateName⟩,
    ec_DuplicateName := ⟨xg_DuplicateName, xh_DuplicateName, xe_DuplicateName, xd_DuplicateName, xc_DuplicateName, hn_class, ht_class, xm_DuplicateName⟩,
    no_DuplicateName_name := no_DuplicateName_name,
    ox_UnknownName := ⟨x_UnknownName, xs_UnknownName, xe_UnknownName, xt_UnknownName, xk_UnknownName⟩,
    ix_UnknownName := a_UnknownName_init,
    tx_UnknownName := xf_UnknownName,
    xf_UnknownName := ⟨xg_UnknownName, xh_UnknownName, xe_UnknownName, xd_UnknownName⟩,
    ec_UnknownName := ⟨xg_UnknownName, xh_UnknownName, xe_UnknownName, xd_UnknownName, xc_UnknownName, hn_class, ht_class, xm_UnknownName⟩,
    no_UnknownName_name := no_UnknownName_name,
    ox_BadCount := ⟨x_BadCount, xs_BadCount, xe_BadCount, xt_BadCount, xk_BadCount⟩,
    ix_BadCount := a_BadCount_init,
    tx_BadCount := xf_BadCount,
    xf_BadCount := ⟨xg_BadCount, xh_BadCount, xe_BadCount, xd_BadCount⟩,
    ec_BadCount := ⟨xg_BadCount, xh_BadCount, xe_BadCount, xd_BadCount, xc_BadCount, hn_class, ht_class, xm_BadCount⟩,
    no_BadCount_count := no_BadCount_count,
    ox_HasRound := ⟨x_HasRound, xs_HasRound, xe_HasRound, xt_HasRound, xk_HasRound⟩,
    ix_HasRound := a_HasRound_init,
    tx_HasRound := xf_HasRound,
    xf_HasRound := ⟨xg_HasRound, xh_HasRound, xe_HasRound, xd_HasRound⟩,
    ec_HasRound := ⟨xg_HasRound, xh_HasRound, xe_HasRound, xd_HasRound, xc_HasRound, hn_class, ht_class, xm_HasRound⟩,
    no_HasRound_name := no_HasRound_name,
    ox_UselessLink := ⟨x_UselessLink, xs_UselessLink, xe_UselessLink, xt_UselessLink, xk_UselessLink⟩,
    ix_UselessLink := a_UselessLink_init,
    tx_UselessLink := xf_UselessLink,
    xf_UselessLink := ⟨xg_UselessLink, xh_UselessLink, xe_UselessLink, xd_UselessLink⟩,
    ec_UselessLink := ⟨xg_UselessLink, xh_UselessLink, xe_UselessLink, xd_UselessLink, xc_UselessLink, hn_class, ht_class, xm_UselessLink⟩,
    no_UselessLink_name := no_UselessLink_name,
    kb_check_pair_0_pair_network := kbinds_perm (by decide) fun _ ws _ hl => match ws, hl with | _ :: _ :: _, _ => .of_eq rfl | [], h => by simp [permL] at h | [_], h => by simp [permL] at h,
    t_BRIDGED := t_BRIDGED,
    c_BRIDGED := PySem.W.mg_of X G q_BRIDGED,
    t_CHAIN := t_CHAIN,
    c_CHAIN := PySem.W.mg_of X G q_CHAIN,
    t_DIGITS := t_DIGITS,
    c_DIGITS := PySem.W.mg_of X G q_DIGITS,
    t_FORK := t_FORK,
    c_FORK := PySem.W.mg_of X G q_FORK,
    t_LETTERS := t_LETTERS,
    c_LETTERS := PySem.W.mg_of X G q_LETTERS,
    t_LINK := t_LINK,
    c_LINK := PySem.W.mg_of X G q_LINK,
    t_LONGEST_NAME := t_LONGEST_NAME,
    c_LONGEST_NAME := PySem.W.mg_of X G q_LONGEST_NAME,
    t_TAIL := t_TAIL,
    c_TAIL := PySem.W.mg_of X G q_TAIL,
    t_WOVEN := t_WOVEN,
    c_WOVEN := PySem.W.mg_of X G q_WOVEN,
    n_abs := PySem.W.mg_none_of X G z_abs,
    n_all := PySem.W.mg_none_of X G z_all,
    n_any := PySem.W.mg_none_of X G z_any,
    n_bool := PySem.W.mg_none_of X G z_bool,
    n_enumerate := PySem.W.mg_none_of X G z_enumerate,
    n_int := PySem.W.mg_none_of X G z_int,
    n_isinstance := PySem.W.mg_none_of X G z_isinstance,
    n_len := PySem.W.mg_none_of X G z_len,
    n_list := PySem.W.mg_none_of X G z_list,
    n_max := PySem.W.mg_none_of X G z_max,
    n_min := PySem.W.mg_none_of X G z_min,
    n_range := PySem.W.mg_none_of X G z_range,
    n_set := PySem.W.mg_none_of X G z_set,
    n_sorted := PySem.W.mg_none_of X G z_sorted,
    n_tuple := PySem.W.mg_none_of X G z_tuple,
    n_zip := PySem.W.mg_none_of X G z_zip }
  exact ⟨PySem.W.fnOf "law" "law" (defArgs s_law) (defBody s_law) (defScope s_law) .none kV_law dc_law pm_law an_law cd_law ct_law, fun s v => .of_eq rfl, fun base _ _ => ok_law T (fun_mk (st := s_law) l_law c_law k_law)⟩
end My
open PySem PySem.W PyProof.Rows
set_option maxRecDepth 100000 in
set_option maxHeartbeats 0 in
theorem PySem.Challenge.cw_extralink_k41_check_pair_holds : PySem.Challenge.rw_extralink_k41_check_pair.Holds := by
  w_on; o_law; k_head; (case hw => w_witness2)
  k_fill
  refine L2.walk_of (l := PySem.Challenge.rw_extralink_k41_check_pair) (n := 63) (k := 102) (x := "_law_script") (CX := fun _ => L2.CX0) (sp := fun w => My.spLaw _) rfl (by decide) rfl ⟨rfl, by decide, by decide⟩ (fun w h Y => PySem.W.kIn_of Y) ?F (fun _ _ a ns hl _ hS => ⟨a, ns, rfl, hS, hl, fun _ => rfl⟩) (fun _ _ _ _ _ h => h)
  case F =>
    intro w mg fa h KX G hmg
    refine' My.all_mk KX G hmg ?a_BadName ?a_DuplicateName ?a_UnknownName ?a_BadCount ?a_HasRound ?a_UselessLink ?a_Network ?pg_Network ?hd_Network ?po_Network ?sa_Network ?mk_Network ?kc_Network ?hc_Network ?mo_Network ?ic_Network ?ty_Network ?hn_class ?ht_class ?na_Network_start ?na_Network_end ?na_Network_links ?na_Network_places ?na_Network_behind ?a_valid_name ?l_valid_name ?c_valid_name ?k_valid_name ?a_stops ?l_stops ?c_stops ?k_stops ?a_connects ?l_connects ?c_connects ?k_connects ?a_ordered_places ?l_ordered_places ?c_ordered_places ?k_ordered_places ?a_places_behind ?l_places_behind ?c_places_behind ?k_places_behind ?a_useful_names ?l_useful_names ?c_useful_names ?k_useful_names ?a_check_ends ?l_check_ends ?c_check_ends ?k_check_ends ?a_check_names ?l_check_names ?c_check_names ?k_check_names ?a_check_rounds ?l_check_rounds ?c_check_rounds ?k_check_rounds ?a_check_use ?l_check_use ?c_check_use ?k_check_use ?a_check_pair ?l_check_pair ?c_check_pair ?k_check_pair ?a_apart ?l_apart ?c_apart ?k_apart ?a_check_paper ?l_check_paper ?c_check_paper ?k_check_paper ?a_is_right ?l_is_right ?c_is_right ?k_is_right ?a_is_formed ?l_is_formed ?c_is_formed ?k_is_formed ?a_is_tailed ?l_is_tailed ?c_is_tailed ?k_is_tailed ?a_plan_ends ?l_plan_ends ?c_plan_ends ?k_plan_ends ?a_plan_joints ?l_plan_joints ?c_plan_joints ?k_plan_joints ?a_start ?l_start ?c_start ?k_start ?a_take ?l_take ?c_take ?k_take ?a_planted ?l_planted ?c_planted ?k_planted ?a_shuffled ?l_shuffled ?c_shuffled ?k_shuffled ?a_places ?l_places ?c_places ?k_places ?a_between ?l_between ?c_between ?k_between ?a_pair ?l_pair ?c_pair ?k_pair ?a_merged ?l_merged ?c_merged ?k_merged ?a_changed ?l_changed ?c_changed ?k_changed ?a_BadName_init ?i_BadName_init ?l_BadName_init ?c_BadName_init ?k_BadName_init ?a_DuplicateName_init ?i_DuplicateName_init ?l_DuplicateName_init ?c_DuplicateName_init ?k_DuplicateName_init ?a_UnknownName_init ?i_UnknownName_init ?l_UnknownName_init ?c_UnknownName_init ?k_UnknownName_init ?a_BadCount_init ?i_BadCount_init ?l_BadCount_init ?c_BadCount_init ?k_BadCount_init ?a_HasRound_init ?i_HasRound_init ?l_HasRound_init ?c_HasRound_init ?k_HasRound_init ?a_UselessLink_init ?i_UselessLink_init ?l_UselessLink_init ?c_UselessLink_init ?k_UselessLink_init ?a_Network_init ?i_Network_init ?l_Network_init ?c_Network_init ?k_Network_init ?a_Network_start ?pg_Network_start ?pt_Network_start ?pr_Network_start ?l_Network_start ?c_Network_start ?k_Network_start ?a_Network_end ?pg_Network_end ?pt_Network_end ?pr_Network_end ?l_Network_end ?c_Network_end ?k_Network_end ?a_Network_getitem ?i_Network_getitem ?l_Network_getitem ?c_Network_getitem ?k_Network_getitem ?a_Network_contains ?i_Network_contains ?l_Network_contains ?c_Network_contains ?k_Network_contains ?rd_Network ?ga_Network ?cw_Network_MOST_LINKS ?cw_Network_MOST_PLACES ?fi_Network_getitem ?ns_Network_getitem ?fi_Network_contains ?ns_Network_contains ?x_BadName ?xs_BadName ?xe_BadName ?xt_BadName ?xk_BadName ?xg_BadName ?xh_BadName ?xd_BadName ?xc_BadName ?xm_BadName ?xi_BadName ?xf_BadName ?no_BadName_name ?x_DuplicateName ?xs_DuplicateName ?xe_DuplicateName ?xt_DuplicateName ?xk_DuplicateName ?xg_DuplicateName ?xh_DuplicateName ?xd_DuplicateName ?xc_DuplicateName ?xm_DuplicateName ?xi_DuplicateName ?xf_DuplicateName ?no_DuplicateName_name ?x_UnknownName ?xs_UnknownName ?xe_UnknownName ?xt_UnknownName ?xk_UnknownName ?xg_UnknownName ?xh_UnknownName ?xd_UnknownName ?xc_UnknownName ?xm_UnknownName ?xi_UnknownName ?xf_UnknownName ?no_UnknownName_name ?x_BadCount ?xs_BadCount ?xe_BadCount ?xt_BadCount ?xk_BadCount ?xg_BadCount ?xh_BadCount ?xd_BadCount ?xc_BadCount ?xm_BadCount ?xi_BadCount ?xf_BadCount ?no_BadCount_count ?x_HasRound ?xs_HasRound ?xe_HasRound ?xt_HasRound ?xk_HasRound ?xg_HasRound ?xh_HasRound ?xd_HasRound ?xc_HasRound ?xm_HasRound ?xi_HasRound ?xf_HasRound ?no_HasRound_name ?x_UselessLink ?xs_UselessLink ?xe_UselessLink ?xt_UselessLink ?xk_UselessLink ?xg_UselessLink ?xh_UselessLink ?xd_UselessLink ?xc_UselessLink ?xm_UselessLink ?xi_UselessLink ?xf_UselessLink ?no_UselessLink_name ?q_BRIDGED ?q_CHAIN ?q_DIGITS ?q_FORK ?q_LETTERS ?q_LINK ?q_LONGEST_NAME ?q_TAIL ?q_WOVEN ?z_abs ?z_all ?z_any ?z_bool ?z_enumerate ?z_int ?z_isinstance ?z_len ?z_list ?z_max ?z_min ?z_range ?z_set ?z_sorted ?z_tuple ?z_zip ?a_law ?l_law ?c_law ?k_law
    (case a_BadName => k_is)
    (case a_DuplicateName => k_is)
    (case a_UnknownName => k_is)
    (case a_BadCount => k_is)
    (case a_HasRound => k_is)
    (case a_UselessLink => k_is)
    (case a_Network => k_is)
    (case pg_Network => k_is)
    (case hd_Network => k_is)
    (case po_Network => k_is)
    (case sa_Network => k_is)
    (case mk_Network => k_is)
    (case kc_Network => k_is)
    (case hc_Network => k_is)
    (case mo_Network => k_is)
    (case ic_Network => k_is)
    (case ty_Network => k_is)
    (case hn_class => k_is)
    (case ht_class => k_is)
    (case na_Network_start => k_is)
    (case na_Network_end => k_is)
    (case na_Network_links => k_is)
    (case na_Network_places => k_is)
    (case na_Network_behind => k_is)
    (case a_valid_name => k_is)
    (case l_valid_name => k_is)
    (case c_valid_name => k_is)
    (case k_valid_name => k_is)
    (case a_stops => k_is)
    (case l_stops => k_is)
    (case c_stops => k_is)
    (case k_stops => k_is)
    (case a_connects => k_is)
    (case l_connects => k_is)
    (case c_connects => k_is)
    (case k_connects => k_is)
    (case a_ordered_places => k_is)
    (case l_ordered_places => k_is)
    (case c_ordered_places => k_is)
    (case k_ordered_places => k_is)
    (case a_places_behind => k_is)
    (case l_places_behind => k_is)
    (case c_places_behind => k_is)
    (case k_places_behind => k_is)
    (case a_useful_names => k_is)
    (case l_useful_names => k_is)
    (case c_useful_names => k_is)
    (case k_useful_names => k_is)
    (case a_check_ends => k_is)
    (case l_check_ends => k_is)
    (case c_check_ends => k_is)
    (case k_check_ends => k_is)
    (case a_check_names => k_is)
    (case l_check_names => k_is)
    (case c_check_names => k_is)
    (case k_check_names => k_is)
    (case a_check_rounds => k_is)
    (case l_check_rounds => k_is)
    (case c_check_rounds => k_is)
    (case k_check_rounds => k_is)
    (case a_check_use => k_is)
    (case l_check_use => k_is)
    (case c_check_use => k_is)
    (case k_check_use => k_is)
    (case a_check_pair => k_is)
    (case l_check_pair => k_is)
    (case c_check_pair => k_is)
    (case k_check_pair => k_is)
    (case a_apart => k_is)
    (case l_apart => k_is)
    (case c_apart => k_is)
    (case k_apart => k_is)
    (case a_check_paper => k_is)
    (case l_check_paper => k_is)
    (case c_check_paper => k_is)
    (case k_check_paper => k_is)
    (case a_is_right => k_is)
    (case l_is_right => k_is)
    (case c_is_right => k_is)
    (case k_is_right => k_is)
    (case a_is_formed => k_is)
    (case l_is_formed => k_is)
    (case c_is_formed => k_is)
    (case k_is_formed => k_is)
    (case a_is_tailed => k_is)
    (case l_is_tailed => k_is)
    (case c_is_tailed => k_is)
    (case k_is_tailed => k_is)
    (case a_plan_ends => k_is)
    (case l_plan_ends => k_is)
    (case c_plan_ends => k_is)
    (case k_plan_ends => k_is)
    (case a_plan_joints => k_is)
    (case l_plan_joints => k_is)
    (case c_plan_joints => k_is)
    (case k_plan_joints => k_is)
    (case a_start => k_is)
    (case l_start => k_is)
    (case c_start => k_is)
    (case k_start => k_is)
    (case a_take => k_is)
    (case l_take => k_is)
    (case c_take => k_is)
    (case k_take => k_is)
    (case a_planted => k_is)
    (case l_planted => k_is)
    (case c_planted => k_is)
    (case k_planted => k_is)
    (case a_shuffled => k_is)
    (case l_shuffled => k_is)
    (case c_shuffled => k_is)
    (case k_shuffled => k_is)
    (case a_places => k_is)
    (case l_places => k_is)
    (case c_places => k_is)
    (case k_places => k_is)
    (case a_between => k_is)
    (case l_between => k_is)
    (case c_between => k_is)
    (case k_between => k_is)
    (case a_pair => k_is)
    (case l_pair => k_is)
    (case c_pair => k_is)
    (case k_pair => k_is)
    (case a_merged => k_is)
    (case l_merged => k_is)
    (case c_merged => k_is)
    (case k_merged => k_is)
    (case a_changed => k_is)
    (case l_changed => k_is)
    (case c_changed => k_is)
    (case k_changed => k_is)
    (case a_BadName_init => k_is)
    (case i_BadName_init => k_is)
    (case l_BadName_init => k_is)
    (case c_BadName_init => k_is)
    (case k_BadName_init => k_is)
    (case a_DuplicateName_init => k_is)
    (case i_DuplicateName_init => k_is)
    (case l_DuplicateName_init => k_is)
    (case c_DuplicateName_init => k_is)
    (case k_DuplicateName_init => k_is)
    (case a_UnknownName_init => k_is)
    (case i_UnknownName_init => k_is)
    (case l_UnknownName_init => k_is)
    (case c_UnknownName_init => k_is)
    (case k_UnknownName_init => k_is)
    (case a_BadCount_init => k_is)
    (case i_BadCount_init => k_is)
    (case l_BadCount_init => k_is)
    (case c_BadCount_init => k_is)
    (case k_BadCount_init => k_is)
    (case a_HasRound_init => k_is)
    (case i_HasRound_init => k_is)
    (case l_HasRound_init => k_is)
    (case c_HasRound_init => k_is)
    (case k_HasRound_init => k_is)
    (case a_UselessLink_init => k_is)
    (case i_UselessLink_init => k_is)
    (case l_UselessLink_init => k_is)
    (case c_UselessLink_init => k_is)
    (case k_UselessLink_init => k_is)
    (case a_Network_init => k_is)
    (case i_Network_init => k_is)
    (case l_Network_init => k_is)
    (case c_Network_init => k_is)
    (case k_Network_init => k_is)
    (case a_Network_start => k_is)
    (case pg_Network_start => k_is)
    (case pt_Network_start => k_is)
    (case pr_Network_start => k_is)
    (case l_Network_start => k_is)
    (case c_Network_start => k_is)
    (case k_Network_start => k_is)
    (case a_Network_end => k_is)
    (case pg_Network_end => k_is)
    (case pt_Network_end => k_is)
    (case pr_Network_end => k_is)
    (case l_Network_end => k_is)
    (case c_Network_end => k_is)
    (case k_Network_end => k_is)
    (case a_Network_getitem => k_is)
    (case i_Network_getitem => k_is)
    (case l_Network_getitem => k_is)
    (case c_Network_getitem => k_is)
    (case k_Network_getitem => k_is)
    (case a_Network_contains => k_is)
    (case i_Network_contains => k_is)
    (case l_Network_contains => k_is)
    (case c_Network_contains => k_is)
    (case k_Network_contains => k_is)
    (case rd_Network => k_is)
    (case ga_Network => k_is)
    (case cw_Network_MOST_LINKS => k_is)
    (case cw_Network_MOST_PLACES => k_is)
    (case fi_Network_getitem => k_is)
    (case ns_Network_getitem => k_is)
    (case fi_Network_contains => k_is)
    (case ns_Network_contains => k_is)
    (case x_BadName => exact ⟨_, _, _, _, _, _, _, _, _, _, _, _, _, _, _, by k_is, by decide +kernel⟩)
    (case xs_BadName => k_is)
    (case xe_BadName => k_is)
    (case xt_BadName => k_is)
    (case xk_BadName => k_is)
    (case xg_BadName => k_is)
    (case xh_BadName => k_is)
    (case xd_BadName => k_is)
    (case xc_BadName => k_is)
    (case xm_BadName => k_is)
    (case xi_BadName => k_is)
    (case xf_BadName => k_is)
    (case no_BadName_name => k_is)
    (case x_DuplicateName => exact ⟨_, _, _, _, _, _, _, _, _, _, _, _, _, _, _, by k_is, by decide +kernel⟩)
    (case xs_DuplicateName => k_is)
    (case xe_DuplicateName => k_is)
    (case xt_DuplicateName => k_is)
    (case xk_DuplicateName => k_is)
    (case xg_DuplicateName => k_is)
    (case xh_DuplicateName => k_is)
    (case xd_DuplicateName => k_is)
    (case xc_DuplicateName => k_is)
    (case xm_DuplicateName => k_is)
    (case xi_DuplicateName => k_is)
    (case xf_DuplicateName => k_is)
    (case no_DuplicateName_name => k_is)
    (case x_UnknownName => exact ⟨_, _, _, _, _, _, _, _, _, _, _, _, _, _, _, by k_is, by decide +kernel⟩)
    (case xs_UnknownName => k_is)
    (case xe_UnknownName => k_is)
    (case xt_UnknownName => k_is)
    (case xk_UnknownName => k_is)
    (case xg_UnknownName => k_is)
    (case xh_UnknownName => k_is)
    (case xd_UnknownName => k_is)
    (case xc_UnknownName => k_is)
    (case xm_UnknownName => k_is)
    (case xi_UnknownName => k_is)
    (case xf_UnknownName => k_is)
    (case no_UnknownName_name => k_is)
    (case x_BadCount => exact ⟨_, _, _, _, _, _, _, _, _, _, _, _, _, _, _, by k_is, by decide +kernel⟩)
    (case xs_BadCount => k_is)
    (case xe_BadCount => k_is)
    (case xt_BadCount => k_is)
    (case xk_BadCount => k_is)
    (case xg_BadCount => k_is)
    (case xh_BadCount => k_is)
    (case xd_BadCount => k_is)
    (case xc_BadCount => k_is)
    (case xm_BadCount => k_is)
    (case xi_BadCount => k_is)
    (case xf_BadCount => k_is)
    (case no_BadCount_count => k_is)
    (case x_HasRound => exact ⟨_, _, _, _, _, _, _, _, _, _, _, _, _, _, _, by k_is, by decide +kernel⟩)
    (case xs_HasRound => k_is)
    (case xe_HasRound => k_is)
    (case xt_HasRound => k_is)
    (case xk_HasRound => k_is)
    (case xg_HasRound => k_is)
    (case xh_HasRound => k_is)
    (case xd_HasRound => k_is)
    (case xc_HasRound => k_is)
    (case xm_HasRound => k_is)
    (case xi_HasRound => k_is)
    (case xf_HasRound => k_is)
    (case no_HasRound_name => k_is)
    (case x_UselessLink => exact ⟨_, _, _, _, _, _, _, _, _, _, _, _, _, _, _, by k_is, by decide +kernel⟩)
    (case xs_UselessLink => k_is)
    (case xe_UselessLink => k_is)
    (case xt_UselessLink => k_is)
    (case xk_UselessLink => k_is)
    (case xg_UselessLink => k_is)
    (case xh_UselessLink => k_is)
    (case xd_UselessLink => k_is)
    (case xc_UselessLink => k_is)
    (case xm_UselessLink => k_is)
    (case xi_UselessLink => k_is)
    (case xf_UselessLink => k_is)
    (case no_UselessLink_name => k_is)
    (case q_BRIDGED => k_is)
    (case q_CHAIN => k_is)
    (case q_DIGITS => k_is)
    (case q_FORK => k_is)
    (case q_LETTERS => k_is)
    (case q_LINK => k_is)
    (case q_LONGEST_NAME => k_is)
    (case q_TAIL => k_is)
    (case q_WOVEN => k_is)
    (case z_abs => k_is)
    (case z_all => k_is)
    (case z_any => k_is)
    (case z_bool => k_is)
    (case z_enumerate => k_is)
    (case z_int => k_is)
    (case z_isinstance => k_is)
    (case z_len => k_is)
    (case z_list => k_is)
    (case z_max => k_is)
    (case z_min => k_is)
    (case z_range => k_is)
    (case z_set => k_is)
    (case z_sorted => k_is)
    (case z_tuple => k_is)
    (case z_zip => k_is)
    (case a_law => k_is)
    (case l_law => k_is)
    (case c_law => k_is)
    (case k_law => k_is)
