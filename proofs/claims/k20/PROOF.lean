import PyProof.Rows.All
import Wide.All
import OpenK.AllK
import Wide.FinOn
import HandS.Base
import HandS.Call
import HandS.List
import HandS.Comp
import HandS.Ends
import HandS.Dict
import HandS.Iter
import HandS.Text
import HandS.Words
import HandS.WordsList
import HandS.WordsDict
import HandS.Wide
import HandS.IsInst
import HandS.Codes
import HandS.Property
import HandS.ClsMeth
import HandS.Defaults
import HandS.MakeKw
import HandS.CallLocal
import HandS.CallSlots
import HandS.Exc
import HandS.ExcInit
import HandS.ExcField
import HandS.ExcIs
import HandS.ExcOwn
import HandS.TryOnly
import HandS.WordsExc
import HandS.Gcd
import HandS.FStr
import HandS.StrMore
import HandS.WideBits
import HandS.Style
import HandS.OwnEq
import OpenK.KMeth
import KE.KOpsOwn
import HandS.TupAny
import PyProof.InstEq
import HandS.HotCalls
import HandS.ExcValue
import HandS.Star
import HandS.Zip
import HandS.Walk
import HandS.DictComp
import HandS.Conv
import KE.KDictZip
import HandS.Deep
import HandS.TryMany
import OpenK.KOps
import HandS.Small
import HandS.SetFor
import HandS.Strs
import KE.SortData
import KE.GoesEnumKw
import PyProof.NeKinds
import PySem.Challenge.RW_extralink_k20_line_parts
set_option Elab.async false
set_option linter.all false
set_option maxRecDepth 100000
/-! My own rules beside the hand layer's: an item of a list read for a store in place, a text backwards, a call by keywords alone; what is said of lists of ints as data. -/
namespace My
open PySem PySem.Spec PyProof.Rows L2

/-! ### rules -/
section
variable {X : Cx}
def rGetL (K : PySem.W.Frag) : V → V → Hp → VK → Prop := fun x y H Q => ∃ p xs i v, x = .ref p ∧ y = .int i ∧ SqL K H p xs ∧ 0 ≤ i ∧ atI xs i = some v ∧ Q v H
theorem get_list : PGet X (rGetL X.K) := by
  intro pins s σ H o i ov iv Q I ro ri h
  obtain ⟨p, xs, k, z, rfl, rfl, hq, h0, he, q⟩ := h
  cases ro
  obtain ⟨t, rfl⟩ := ri
  obtain ⟨its, r, pl, hz⟩ := I.list hq
  obtain ⟨j, h1, h2, h3, h4, h5⟩ := atI_get he
  obtain ⟨w, ew, rw'⟩ := r.get h2
  have hl := r.length
  have hn := line63
  have hj : k.toNat = j := by
    rw [seqIndex_of h0 h5] at h1
    exact Option.some.inj h1
  exact wpAny_getItem_list pl.isList h0 (by omega) (by rw [hj]; simpa using ew) ⟨z, H, I, rw', q⟩

def revS (z : Str) : Str := ⟨z.cps.reverse⟩
def tRevS (te : TE) : TE := fun σ H Q => te σ H fun x H1 => ∃ z, x = .str z ∧ z.length ≤ sizeLine ∧ Q (.str (revS z)) H1
theorem range_back (n : Nat) : sliceRange ((n : Int) - 1) (-1) (-1) = (List.range n).map fun k => n - 1 - k := by
  unfold sliceRange
  have e : (if (-1 : Int) > 0 then (if ((n : Int) - 1) < -1 then (-1 - ((n : Int) - 1) + -1 - 1) / -1 else 0) else (if ((n : Int) - 1) > -1 then (((n : Int) - 1) - -1 - -1 - 1) / (- -1) else 0)).toNat = n := by
    rw [if_neg (by decide)]
    by_cases h : ((n : Int) - 1) > -1
    · rw [if_pos h, show (- -1 : Int) = 1 by decide, Int.ediv_one]
      omega
    · rw [if_neg h]
      omega
  show List.map (fun (k : Nat) => (((n : Int) - 1) + (-1) * (k : Int)).toNat) (List.range (Int.toNat (if (-1 : Int) > 0 then (if ((n : Int) - 1) < -1 then (-1 - ((n : Int) - 1) + -1 - 1) / -1 else 0) else (if ((n : Int) - 1) > -1 then (((n : Int) - 1) - -1 - -1 - 1) / (- -1) else 0)))) = _
  rw [e]
  refine List.map_congr_left fun k hk => ?_
  have := List.mem_range.mp hk
  omega
theorem filterMap_back (z : Array Nat) : (((List.range z.size).map fun k => z.size - 1 - k).filterMap (z[·]?)) = z.toList.reverse := by
  refine List.ext_getElem? fun i => ?_
  have e : (((List.range z.size).map fun k => z.size - 1 - k).filterMap (z[·]?)) = (List.range z.size).map fun k => z.getD (z.size - 1 - k) 0 := by
    rw [List.filterMap_map]
    have : ∀ l : List Nat, (∀ k ∈ l, k < z.size) → l.filterMap ((fun x => z[x]?) ∘ fun k => z.size - 1 - k) = l.map fun k => z.getD (z.size - 1 - k) 0 := by
      intro l
      induction l with
      | nil => intro _; rfl
      | cons a r ih =>
        intro h
        have ha := h a List.mem_cons_self
        have hb : z.size - 1 - a < z.size := by omega
        rw [List.filterMap_cons]
        have e1 : ((fun x => z[x]?) ∘ fun k => z.size - 1 - k) a = some (z.getD (z.size - 1 - a) 0) := by
          show z[z.size - 1 - a]? = _
          rw [Array.getElem?_eq_getElem hb]
          simp [Array.getD, hb]
        rw [e1, List.map_cons, ih fun k hk => h k (List.mem_cons_of_mem _ hk)]
    exact this _ fun k hk => List.mem_range.mp hk
  rw [e, List.getElem?_map]
  by_cases hi : i < z.size
  · rw [List.getElem?_range hi, List.getElem?_reverse (by simpa using hi)]
    have hb : z.size - 1 - i < z.size := by omega
    simp [Array.getD, hb]
  · rw [List.getElem?_eq_none (by simpa using hi), List.getElem?_eq_none (by simpa using hi)]
    rfl
theorem pe_revS {e : Expr} {te : TE} {k : Nat} {p1 p2 p3 pos : Pos} (he : PE X e te) : PE X (.Subscript e (.Slice none none (some (.UnaryOp .USub (.Constant (.int 1) k p1) p2)) p3) pos) (tRevS te) := by
  refine ⟨fun pins s σ H Q I h => ?_⟩
  refine Subscript_ (thn (he.run pins s σ H _ I h) fun v s1 ⟨x, H1, I1, r1, q1⟩ => ?_)
  obtain ⟨z, ex, hz, q⟩ := q1
  subst ex
  obtain ⟨tz, rfl⟩ := r1
  have hst : PO X (some (.UnaryOp .USub (.Constant (.int 1) k p1) p2)) (tPart (tUn (rU fun i => .int (-i)) (tC (.int 1)))) := po_some (pe_un un_neg pe_int)
  refine wpAny_Slice (thn (po_none.run pins s1 σ H1 (fun o H2 => o = none ∧ H2 = H1) I1 ⟨rfl, rfl⟩) fun vl s2 ⟨l, H2, I2, pl, el, e2⟩ => ?_)
  subst el e2
  refine thn (po_none.run pins s2 σ H2 (fun o H3 => o = none ∧ H3 = H2) I2 ⟨rfl, rfl⟩) fun vu s3 ⟨u, H3, I3, pu, eu, e3⟩ => ?_
  subst eu e3
  refine thn (hst.run pins s3 σ H3 (fun o H4 => o = some (-1) ∧ H4 = H3) I3 ⟨1, rfl, -1, rfl, rfl, rfl⟩) fun vs s4 ⟨o, H4, I4, ps, eo, e4⟩ => ?_
  subst eo e4
  have I5 : Inv X pins σ H4 { s4 with heap := s4.heap.push { cls := .type "slice", data := .fields #[vl, vu, vs] } } := I4.kept (t' := s4.toks) fun b ob q => Heap.get?_push_of_some _ q
  obtain ⟨l, rfl, el⟩ := IsPart.raw pl
  obtain ⟨u, rfl, eu⟩ := IsPart.raw pu
  obtain ⟨st, rfl, est⟩ := IsPart.raw ps
  cases l with
  | some _ => cases el
  | none =>
  cases u with
  | some _ => cases eu
  | none =>
  cases st with
  | none => cases est
  | some st =>
  obtain ⟨k1, tk⟩ := st
  have ek : k1 = -1 := Option.some.inj est
  subst ek
  show wpAny (model X.prog X.w) X.A (subscriptTail e (.Slice none none (some (.UnaryOp .USub (.Constant (.int 1) k p1) p2)) p3) (.str z tz) (.ref s4.heap.objs.size)) (EP X pins σ Q) X.xe { s4 with heap := s4.heap.push { cls := .type "slice", data := .fields #[.none, .none, .int (-1) tk] } }
  refine tail_any (ops := [.ref s4.heap.objs.size, .str z tz]) (typeIs_str _ _ _) F.slot_str_getitem.lookup ?_ (by with_unfolding_all rfl)
  refine wpAny_getItem_str_slice (l := none) (u := none) (st := some (-1, tk)) ⟨_, Heap.get?_push_size _ rfl, rfl, rfl⟩ rfl ?_
  have hp : slicePicked z none none (some (-1, tk)) = (List.range z.cps.size).map fun k => z.cps.size - 1 - k := by
    show Builtin.Str.strSliceIndices none none (-1) z.length = _
    unfold Builtin.Str.strSliceIndices
    exact range_back z.length
  have hr : (⟨((slicePicked z none none (some (-1, tk))).filterMap (z.cps[·]?)).toArray⟩ : Str) = revS z := by
    rw [hp, filterMap_back]
    unfold revS
    congr 1
    apply Array.ext'
    simp
  show Made.post (if ((-1 : Int) == 1 && (slicePicked z none none (some (-1, tk))).length == z.length) = true then Made.val (.str z tz) else Made.str ⟨((slicePicked z none none (some (-1, tk))).filterMap (z.cps[·]?)).toArray⟩) (EP X pins σ Q) _
  rw [if_neg (by rw [show ((-1 : Int) == 1) = false by decide, Bool.false_and]; exact Bool.false_ne_true), hr]
  refine ⟨?_, .str _, H4, I5.tok _, ⟨_, rfl⟩, q⟩
  show (revS z).cps.size ≤ sizeLine
  unfold revS
  rw [Array.size_reverse]
  exact hz

section
variable {CX : CXT} {k : Nat} {f : Addr} {fd : FuncData} {ps ks : List Str} {sp : Sp} {E : XK} {x : Str} {p pos : Pos} {kws : List Keyword} {tk : TA} {g : List Value → List Value → List Value} {gV : List V → List V → List V}
def tCallK0 (sp : Sp) (gV : List V → List V → List V) (E : XK) (tk : TA) : TE := fun σ H Q => tk σ H fun zs H2 => sp (gV [] zs) H2 Q E
/-- f(k = v, ..), nothing by place -/
theorem pe_callK0 (F : FnOk X.prog X.w X.K X.mg X.base CX k f fd ps sp) (hr : Room k X.A) (hg : Gl X x) (hm : X.mg x = some (.ref f)) (hk : PySem.W.keepIn X.K (.ref f) = true) (hb : KBinds X.K fd ps ks g gV) (hx : Passes CX X E)
    (hkw : PK X kws tk) (hall : (backToKw pos (keywordEach kws X.env)).all (·.1.isSome) = true := by rfl) (hks : (backToKw pos (keywordEach kws X.env)).filterMap (·.1) = ks := by rfl)
    (hdb : (x == ("__debug__" : Str)) = false := by decide)
    (hpl : ((backTo pos (starEach [] X.env)).any (·.1) || (backToKw pos (keywordEach kws X.env)).any (·.1.isNone)) = false := by rfl) :
    PE X (.Call (.Name x p) [] kws pos) (tCallK0 sp gV E tk) := by
  refine ⟨fun pins s σ H Q I h => ?_⟩
  refine wpAny_Call_Name_kw (ld_glob I hg hm ?_ hdb)
  refine PySem.W.callWith_KW0 (h₀ := X.base) I.ok.mod.kin hk hall (thn (hkw.run pos pins s σ H _ I h) fun ws s2 ⟨zs, H2, I2, rz, q2⟩ => ⟨I2.kIn, ?_⟩) hpl
  rw [hks]
  exact run_fnk (us := []) (vs := []) F hr hb hx I2 .nil rz q2
end
end

/-- all parameters by keyword, in their order -/
def kAll {α : Type} : List α → List α → List α
  | [], zs => zs
  | _ :: _, _ => []
theorem kbinds_all {K : PySem.W.Frag} {fd : FuncData} {ps ks : List Str} (h0 : 0 < ps.length) (h : ∀ (s : Shared) (ws : List Value), K.In s.heap → ws.length = ps.length → BindsTo s fd ⟨[], ks.zip ws⟩ (ps.zip ws)) : KBinds K fd ps ks kAll kAll where
  to := fun s us ws hK hl => by
    cases us with
    | nil => exact h s ws hK hl
    | cons u r =>
      have z : (0 : Nat) = ps.length := hl
      omega
  rel := fun {vs us zs ws} r rz => by
    cases r with
    | nil => exact rz
    | cons _ _ => exact .nil

/-! ### places -/
theorem at0 {α : Type} {x : α} {xs : List α} : atI (x :: xs) 0 = some x := atI_nat (j := 0) rfl
theorem ix_nat {n j : Nat} (h : j < n) : ixN n (j : Int) = some j := by
  unfold ixN
  rw [if_pos (by omega), if_pos (by omega), Int.toNat_natCast]
theorem ix0 {n : Nat} (h : 0 < n) : ixN n 0 = some 0 := ix_nat h

/-! ### walks over a text -/
theorem lc_str {x : Str} {g : TG} {tt : TT} {te : TE} {vs : List Nat} {σ : L2.St} {H1 : Hp} {D : Addr} {Qd : Hp → Prop} (Pv : Nat → Hp → Prop) (h0 : Pv 0 (upd H1 D (.lst [])))
    (hs : ∀ i c H, x.cps.toList[i]? = some c → Pv i H → g (.str ⟨#[c]⟩) (wipe σ vs) H fun σ2 H2 => wipe σ2 vs = wipe σ vs ∧ tt σ2 H2 fun b H3 =>
      if b = true then te σ2 H3 fun y H4 => ∃ acc, H4 D = some (.lst acc) ∧ acc.length < sizeLine ∧ Pv (i + 1) (upd H4 D (.lst (acc ++ [y]))) else Pv (i + 1) H3) (hd : ∀ H, Pv x.cps.size H → Qd H) :
    ∃ W : Nat → Nat → Hp → Prop, (∃ m, W 0 m (upd H1 D (.lst []))) ∧ ∀ i m H, W i m H →
      ((Its x).stop i H ∧ Qd H) ∨ ((Its x).go i H ∧ ∃ Nx : Hp → Prop, (∀ H', Nx H' → ∃ m', m' < m ∧ W (i + 1) m' H') ∧ ∀ y H', (Its x).yld i H y H' → g y (wipe σ vs) H' fun σ2 H2 => wipe σ2 vs = wipe σ vs ∧ tt σ2 H2 fun b H3 =>
        if b = true then te σ2 H3 fun y H4 => ∃ acc, H4 D = some (.lst acc) ∧ acc.length < sizeLine ∧ Nx (upd H4 D (.lst (acc ++ [y]))) else Nx H3) := by
  refine ⟨fun i m H => m = x.cps.size - i ∧ i ≤ x.cps.size ∧ Pv i H, ⟨_, rfl, Nat.zero_le _, h0⟩, ?_⟩
  rintro i m H ⟨rfl, hi, p⟩
  by_cases hlt : i < x.cps.size
  · refine .inr ⟨hlt, Pv (i + 1), fun H' p' => ⟨x.cps.size - (i + 1), by omega, rfl, hlt, p'⟩, fun y H' q => ?_⟩
    obtain ⟨e, c, hc, ey⟩ := q
    subst e
    subst ey
    exact hs i c _ (by rw [Array.getElem?_toList]; exact hc) p
  · have e : i = x.cps.size := by omega
    subst e
    exact .inl ⟨Nat.le_refl _, hd H p⟩

/-! ### lists of ints, of texts as data -/
theorem dp_ints {K : PySem.W.Frag} {H : Hp} : ∀ ns : List Int, DpAll K H (ns.map V.int) (ns.map PyData.int)
  | [] => .nil
  | n :: r => .cons (.int n) (dp_ints r)
theorem dp_strs {K : PySem.W.Frag} {H : Hp} : ∀ ns : List Str, DpAll K H (ns.map V.str) (ns.map PyData.str)
  | [] => .nil
  | n :: r => .cons (.str n) (dp_strs r)
theorem shaped_ints (ns : List Int) : SeqAt.shaped (.list (ns.map PyData.int)) = true := PySem.W.ke_shaped_ints ns
theorem eqv_nil : PyData.eqv (.list []) (.list []) = true := by simp [PyData.eqv, PyData.eqvAll]
theorem eqv_cons {a : PyData} {r : List PyData} : PyData.eqv (.list (a :: r)) (.list []) = false := by simp [PyData.eqv, PyData.eqvAll]
theorem same_upd {H : Hp} {p : Addr} {o : HO} (h : H p = none) : Same H (upd H p o) := fun b x e => by
  rw [upd_ne (ne_of_none e h)]
  exact e
/-- what G doesn't know may change -/
theorem same_mut {G H : Hp} {p : Addr} {o : HO} (e : Same G H) (h : G p = none) : Same G (upd H p o) := fun b x q => by
  rw [upd_ne (ne_of_none q h)]
  exact e b x q
end My

/-! My own rules about instances of own classes: texts of them, making them by names and in a try, operators; errors with a dict in an except suite. -/
namespace My
open PySem PySem.Spec PyProof.Rows L2

section
variable {X : Cx}
/-! ### floor division by any divisor that is not 0 -/
def CDivZ (_ j : Int) : Prop := j ≠ 0 ∧ j.natAbs.log2 < 9000
theorem op_fdivZ : OpR X (binaryOp .FloorDiv) (rI CDivZ fun i j => .int (i.fdiv j)) := opI fun _ _ _ _ _ _ _ hc q => floordiv_int hc.1 q (.inl (PyProof.noPylong_of_log2 hc.2))
theorem cdivZ {i j : Int} (h : j ≠ 0) (hb : j.natAbs < 2 ^ 8000) : CDivZ i j := ⟨h, Nat.lt_of_lt_of_le (PySem.Flt.log2_lt_of (by decide) hb) (by decide)⟩

/-! ### str(o), o of an own class with __str__ -/
def rStrO (C : Addr) (sp : Sp) : List V → Hp → VK → Prop := fun xs H Q => ∃ a dx fs, xs = [.ref a] ∧ H a = some (.ins C dx fs) ∧ sp [.ref a] H (fun v H' => ∃ z, v = .str z ∧ Q (.str z) H') E0
theorem call_strO {CX : CXT} {k : Nat} {C f : Addr} {fd : FuncData} {ps : List Str} {sp : Sp} (hs : PySem.W.findIn X.K (.ref C) "__str__" = some (some (.ref f))) (hf : PySem.W.isFn X.K (.ref f) = true)
    (F : FnOk X.prog X.w X.K X.mg X.base CX k f fd ps sp) (hr : Room (k + 2) X.A) (hb : Binds X.K fd ps []) (hx : Passes CX X.nox E0) : CallR X (.type "str") (rStrO C sp) := by
  intro pins s σ H xs us Q I r h
  obtain ⟨a, dx, fs, rfl, ea, q⟩ := h
  obtain ⟨u, rfl, ru⟩ := vals1 r
  obtain rfl : u = Value.ref a := ru
  obtain ⟨mA, O, _, _, _, _⟩ := ins_get I.hok ea
  obtain ⟨od, J, _⟩ := O.look
  have hl : ([Value.ref a] ++ []).length = ps.length := by rw [← F.len _ _ _ _ q]; rfl
  refine PySem.W.kso_call hr.in1.in1.units0 I.kIn J hs hf (wpAny_call ?_)
  refine codeAny_mono (F.run X.A.in1.in1 X.stack s H ⟨[.ref a], []⟩ [.ref a] [.ref a] _ E0 hr.in1.in1 I.env0.in1.in1 (hb _ [.ref a] I.kIn hl) (.cons rfl .nil) q) fun r s' hq => ?_
  cases r with
  | error er => exact False.elim (hx pins σ H s er s' (I.wish _) hq)
  | ok fl =>
    cases fl with
    | ret u =>
      obtain ⟨v, H', I3, rv, z, ez, q3⟩ := I.after hq
      subst ez
      obtain ⟨t, rfl⟩ := rv
      exact ⟨.str z, H', I3, ⟨t, rfl⟩, q3⟩
    | next => exact False.elim hq
    | brk => exact False.elim hq
    | cont => exact False.elim hq

/-! ### C(k = v, ..), nothing by place -/
section
variable {CX : CXT} {k : Nat} {f C : Addr} {fd : FuncData} {ps ks : List Str} {sp : Sp} {E : XK} {x : Str} {p pos : Pos} {e : Expr} {es : List Expr} {kws : List Keyword} {t tk : TA} {g : List Value → List Value → List Value} {gV : List V → List V → List V}
theorem pe_makeK0 (M : Mk X.K C f) (F : FnOk X.prog X.w X.K X.mg X.base CX k f fd ps sp) (hr : Room (k + 1) X.A) (hg : Gl X x) (hm : X.mg x = some (.ref C)) (hb : KBn X.K fd ps (0 + 1) ks g gV) (hx : Passes CX X E)
    (hkw : PK X kws tk) (hall : (backToKw pos (keywordEach kws X.env)).all (·.1.isSome) = true := by rfl) (hks : (backToKw pos (keywordEach kws X.env)).filterMap (·.1) = ks := by rfl)
    (hdb : (x == ("__debug__" : Str)) = false := by decide)
    (hpl : ((backTo pos (starEach [] X.env)).any (·.1) || (backToKw pos (keywordEach kws X.env)).any (·.1.isNone)) = false := by rfl) :
    PE X (.Call (.Name x p) [] kws pos) (tMakeN C 0 ks.length sp gV E tNil tk) := by
  refine ⟨fun pins s σ H Q I h => ?_⟩
  refine wpAny_Call_Name_kw (ld_glob I hg hm ?_ hdb)
  refine PySem.W.callWith_KW0 (h₀ := X.base) I.ok.mod.kin M.kp hall (thn (hkw.run pos pins s σ H _ I h) fun ws s2 ⟨zs, H2, I2, rz, l1, l2, q2⟩ => ⟨I2.kIn, ?_⟩) hpl
  rw [hks]
  exact run_makeN M F hr hb hx I2 .nil rz rfl l2 q2

/-! ### cls(e, ..), the class under a name of the frame -/
def tMakeL (C : Addr) (i : Nat) (sp : Sp) (dvs : List V) (E : XK) (t : TA) : TE := fun σ H Q => σ[i]? = some (some (.ref C)) ∧ tMake C sp dvs E t σ H Q
theorem pe_makeL {i : Nat} {dvs : List V} {ds : List Value} (M : Mk X.K C f) (F : FnOk X.prog X.w X.K X.mg X.base CX k f fd ps sp) (hr : Room (k + 1) X.A) (hN : X.N[i]? = some x) (hv : Vis X.env.scope x) (hb : Binds X.K fd ps ds) (hd : Vals dvs ds) (hx : Passes CX X E)
    (ha : PA X (e :: es) t) (hd1 : (x == ("__debug__" : Str)) = false := by decide) (hcd : (x == ("__classdict__" : Str)) = false := by decide)
    (he : starEach (e :: es) X.env = (false, eval e X.env) :: starEach es X.env := by rfl) (hpl : (backTo pos (starEach es X.env)).any (·.1) = false := by rfl) :
    PE X (.Call (.Name x p) (e :: es) [] pos) (tMakeL C i sp dvs E t) := by
  refine ⟨fun pins s σ H Q I h => ?_⟩
  obtain ⟨hs, h⟩ := h
  refine wpAny_Call_Name_kw (thn ((pe_var (pos := p) hN hv hd1 hcd).run pins s σ H (fun v H1 => v = .ref C ∧ H1 = H) I ⟨.ref C, hs, rfl, rfl⟩) fun u s1 ⟨v, H1, I1, r1, q1⟩ => ?_)
  obtain ⟨rfl, rfl⟩ := q1
  cases r1
  refine PySem.W.callWith_K (h₀ := X.base) I.ok.mod.kin M.kp (thn (ha.run pos pins s1 σ _ _ I1 h) fun us s2 ⟨vs, H2, I2, r, q⟩ => ⟨I2.kIn, ?_⟩) he hpl
  exact run_make M F hr hb hd hx I2 r q

/-! ### C(e, ..) where what is raised is wished for at the caller's slots -/
def tMakeS (C : Addr) (sp : Sp) (dvs : List V) (E : L2.St → XK) (t : TA) : TE := fun σ H Q => tMake C sp dvs (E σ) t σ H Q
theorem run_makeS {pins : List (Addr × Obj)} {σ : L2.St} {H : Hp} {s : Shared} {Q : VK} {us : List Value} {vs : List V} {dvs : List V} {ds : List Value} (M : Mk X.K C f) (F : FnOk X.prog X.w X.K X.mg X.base CX k f fd ps sp) (hr : Room (k + 1) X.A) (hb : Binds X.K fd ps ds) (hd : Vals dvs ds)
    (hx : PassesAt CX X σ E) (I : Inv X pins σ H s) (r : Vals vs us)
    (h : ∀ x dx, H x = none → H dx = none → dx ≠ x → sp (.ref x :: (vs ++ dvs)) (upd (upd H dx (.own x)) x (.ins C dx [])) (fun v H2 => v = .non ∧ Q (.ref x) H2) E) :
    wpAny (model X.prog X.w) X.A (call (.ref C) us) (EP X pins σ Q) X.xe s := by
  have hq := h (s.heap.objs.size + 1) s.heap.objs.size (I.hok.fresh (Nat.le_succ _)) (I.hok.fresh (Nat.le_refl _)) (Nat.ne_of_lt (Nat.lt_succ_self _))
  have I2 := Inv.made (C := C) I
  have r2 : Vals (V.ref (s.heap.objs.size + 1) :: (vs ++ dvs)) (Value.ref (s.heap.objs.size + 1) :: (us ++ ds)) := .cons rfl (r.append hd)
  have hl : (Value.ref (s.heap.objs.size + 1) :: us ++ ds).length = ps.length := by
    have e := r2.length
    rw [F.len _ _ _ _ hq] at e
    exact e.symm
  refine wpAny_call (make_map (f := f) I.kIn M.makes M.init (beq_iff_eq.mp M.fn) (codeAny_mono (F.run _ X.stack _ _ ⟨Value.ref (s.heap.objs.size + 1) :: us, []⟩ (Value.ref (s.heap.objs.size + 1) :: (us ++ ds)) _ _ E (hr.make C us [])
    (I2.env0.make C us []) (hb _ (Value.ref (s.heap.objs.size + 1) :: us) I2.kIn hl) r2 hq) fun r s' hq' => ?_))
  cases r with
  | error e => exact hx pins _ _ e s' I2 hq'
  | ok fl =>
    cases fl with
    | ret u =>
      obtain ⟨v, H', I3, rv, ev, q3⟩ := I2.after hq'
      subst ev
      exact ⟨rv, ⟨V.ref (s.heap.objs.size + 1), H', I3, rfl, q3⟩⟩
    | next => exact False.elim hq'
    | brk => exact False.elim hq'
    | cont => exact False.elim hq'
theorem pe_makeS {E : L2.St → XK} {dvs : List V} {ds : List Value} (M : Mk X.K C f) (F : FnOk X.prog X.w X.K X.mg X.base CX k f fd ps sp) (hr : Room (k + 1) X.A) (hg : Gl X x) (hm : X.mg x = some (.ref C)) (hb : Binds X.K fd ps ds) (hd : Vals dvs ds) (hx : ∀ σ, PassesAt CX X σ (E σ))
    (ha : PA X (e :: es) t) (hdb : (x == ("__debug__" : Str)) = false := by decide) (he : starEach (e :: es) X.env = (false, eval e X.env) :: starEach es X.env := by rfl) (hpl : (backTo pos (starEach es X.env)).any (·.1) = false := by rfl) :
    PE X (.Call (.Name x p) (e :: es) [] pos) (tMakeS C sp dvs E t) := by
  refine ⟨fun pins s σ H Q I h => ?_⟩
  refine wpAny_Call_Name_kw (ld_glob I hg hm ?_ hdb)
  refine PySem.W.callWith_K (h₀ := X.base) I.ok.mod.kin M.kp (thn (ha.run pos pins s σ H _ I h) fun us s1 ⟨vs, H1, I1, r, q⟩ => ⟨I1.kIn, ?_⟩) he hpl
  exact run_makeS M F hr hb hd (hx σ) I1 r q
end

/-! ### C.m(k = v, ..), m a classmethod -/
section
variable {CX : CXT} {k : Nat} {C q0 g : Addr} {mc : Value} {fd : FuncData} {ps ks : List Str} {sp : Sp} {E : XK} {o : Expr} {m : Str} {pos apos : Pos} {kws : List Keyword} {ta : TE} {tk : TA} {pl : Sem Bool}
def tCMethK (C : Addr) (n : Nat) (sp : Sp) (E : XK) (ta : TE) (tk : TA) : TE := fun σ H Q => ta σ H fun x H1 => x = .ref C ∧ tk σ H1 fun zs H2 => zs.length = n ∧ sp (.ref C :: zs) H2 Q E
theorem pe_cmethK0 (he : PE X o ta) (r : ClX.CRead X.K C mc) (c : ClX.CMet X.K C mc m q0 g) (F : FnOk X.prog X.w X.K X.mg X.base CX k g fd ps sp) (hr : Room k X.A) (hx : Passes CX X E) (hkw : PK X kws tk)
    (hb : ∀ (s : Shared) (ws : List Value), X.K.In s.heap → ws.length = ks.length → BindsTo s fd ⟨Value.ref C :: [], ks.zip ws⟩ (ps.zip (Value.ref C :: ws)))
    (hall : (backToKw pos (keywordEach kws X.env)).all (·.1.isSome) = true := by rfl) (hks : (backToKw pos (keywordEach kws X.env)).filterMap (·.1) = ks := by rfl)
    (hpl : ((backTo pos (starEach [] X.env)).any (·.1) || (backToKw pos (keywordEach kws X.env)).any (·.1.isNone)) = false := by rfl)
    (ht : eval (.Call (.Attribute o m apos) [] kws pos) X.env = (do
      let ov ← eval o X.env
      standAt apos.atName
      let (f, first) ← holding [ov] (getMethod ov m pl)
      callWith pos f first (backTo pos (starEach [] X.env)) (backToKw pos (keywordEach kws X.env))) := by rfl) :
    PE X (.Call (.Attribute o m apos) [] kws pos) (tCMethK C ks.length sp E ta tk) := by
  refine ⟨fun pins s σ H Q I h => ?_⟩
  refine PySem.W.methodCall_KW (pl := pl) (thn (he.run pins s σ H _ I h) fun u s1 ⟨x, H1, I1, rx, ex, h2⟩ => ?_) ht
  subst ex
  obtain rfl : u = Value.ref C := rx
  refine ClX.getmethcm_ok I1 r c fun s2 I2 => ?_
  refine PySem.W.callWith_of hpl (PySem.W.keeps_M (K := X.K) (self := Value.ref C) c.fi) (evalArgs_kw2_nil hall (thn (hkw.run pos _ s2 σ H1 _ I2 h2) fun ws s3 ⟨zs, H2, I3, rz, hl, h3⟩ => ⟨⟨ClX.pin_at I3, I3.kIn⟩, ?_⟩))
  rw [hks]
  suffices z : wpAny (model X.prog X.w) X.A (call (.ref s1.heap.objs.size) [] (ks.zip ws)) (EP X ((s1.heap.objs.size, PySem.W.methodObj (.ref g) (.ref C)) :: pins) σ Q) X.xe s3 from thn z fun _ _ y => ClX.unpinE y
  refine wpAny_call (PySem.W.method_call (ClX.pin_at I3) ?_)
  have r2 : Vals (V.ref C :: zs) (Value.ref C :: ws) := .cons rfl rz
  refine codeAny_mono (F.run X.A X.stack s3 H2 ⟨Value.ref C :: [], ks.zip ws⟩ (Value.ref C :: ws) (V.ref C :: zs) Q E hr I3.env0 (hb s3 ws I3.kIn (rz.length.symm.trans hl)) r2 h3) fun r s' hq => ?_
  cases r with
  | error er => exact hx _ σ H2 s3 er s' I3 hq
  | ok fl =>
    cases fl with
    | ret u => exact I3.after hq
    | next => exact False.elim hq
    | brk => exact False.elim hq
    | cont => exact False.elim hq
end

/-! ### an error with a dict of its own, asked for its class in an except suite -/
theorem class_of_err {prog : Program} {w : World} {A : Around} {E : Value → Shared → Prop} {s : Shared} {K : PySem.W.Frag} {x D : Addr} {ox od : Obj} {Q : Option Value → Shared → Prop} (C : ExcC K D) (hK : K.In s.heap) (J : PySem.W.InstAt s.heap x ox D (some od))
    (h : Q (some (.ref D)) { s with toks := s.toks + 1 }) : wpAny (model prog w) A (getAttr? (.ref x) "__class__") Q E s := by
  have hcd : (PySem.W.clsIn K D).isSome = true := by
    obtain ⟨cd, hc, _⟩ := PySem.W.any_some C.hd
    rw [hc]
    rfl
  have hf : PySem.W.findObj K D (some od) "__class__" = some (.bind (.builtin "getset_descriptor.__get__") (.builtin "object.__class__")) := PySem.W.findObj_data hcd C.ha C.hn C.ht
  obtain ⟨hp, gg, dr, tt, os⟩ := s
  have T0 := J.type (M := model prog w)
  have T1 := PySem.W.looks_findIn (M := model prog w) hK C.hg
  have T2 := PySem.W.looks_findIn (M := model prog w) hK C.hk
  have T3 := PySem.W.looks_find (M := model prog w) hK J hf
  have below : PySem.W.Looks (model prog w) hp (isInstance (.ref x) (.type "BaseException")) true := T0.andThen (PySem.W.looks_subIn hK C.hs)
  have b0 : (false && onTheHeap (Value.builtin "BaseException.__getattribute__")) = false := rfl
  have b2 : (Value.builtin "BaseException.__getattribute__" == Value.builtin "object.__getattribute__") = false := by decide +kernel
  have b1 : (onTheHeap (Value.ref D) && Value.builtin "BaseException.__getattribute__" == Value.builtin "object.__getattribute__") = false := by rw [b2]; rfl
  unfold getAttr? getAttrBy? getAttrBy
  refine wpAny_bind (wpAny_mkText (wpAny_bind (wpAny_attempt (wpAny_holding (wpAny_bind (T0.at (wpAny_bind (T1.at ?_))))))))
  show wpAny _ _ (if (onTheHeap (Value.ref D) && Value.builtin "BaseException.__getattribute__" == Value.builtin "object.__getattribute__") = true then _ else _) _ _ _
  rw [b1, if_neg Bool.false_ne_true]
  unfold getAttrByItsOwn hookBefore
  refine wpAny_bind ?_
  rw [if_pos (show onTheHeap (Value.ref D) = true from rfl)]
  refine T2.at ?_
  refine wpAny_bind (wpAny_attempt (wpAny_holding ?_))
  unfold callGetattribute
  rw [b0, if_neg Bool.false_ne_true]
  unfold boundAndCalled
  rw [PySem.F.excAttr_ValueError.ga.bind (.ref x)]
  refine wpAny_bind (wpAny_pure ?_)
  show wpAny _ _ (call (.builtin "BaseException.__getattribute__") [.ref x, .str "__class__" tt]) _ _ _
  refine wpAny_call (codeAny_call_builtin PySem.F.excAttr_ValueError.ga.plain PySem.F.entry_bexc_ga ?_)
  refine @PySem.W.check_slot (model prog w) _ _ ⟨hp, gg, dr, tt + 1, os⟩ "BaseException.__getattribute__" "BaseException" "__getattribute__" (.ref x) [.str "__class__" tt] [] _ (by decide +kernel) (by decide +kernel) below (PySem.F.args_bexc_ga (.ref x) (.str "__class__" tt)) ?_
  unfold Builtin.«object.__getattribute__»
  refine wpAny_bind (wpAny_of_eq (a := ((Value.ref x : Value), [Value.str "__class__" tt])) (by first | rfl | (simp only [slotArgs]; rfl)) ?_)
  refine wpAny_bind (wpAny_pure (wpAny_bind (T0.at (wpAny_bind (T3.at ?_)))))
  show wpAny _ _ (holding [Value.builtin "object.__class__"] (call (.builtin "getset_descriptor.__get__") [.builtin "object.__class__", .ref x, .ref D]) >>= ret) _ _ _
  refine wpAny_bind (wpAny_holding (wpAny_call (PySem.W.class_get (s := ⟨hp, gg, dr, tt + 1, os⟩) (ox := ox) (od := some od) hK J C.hm ?_)))
  refine wpAny_pure ?_
  show wpAny _ _ (handedOut (.ref D)) _ _ _
  rw [PySem.W.handedOut_of (v := .ref D) rfl]
  first
    | exact wpAny_pure (wpAny_pure h)
    | exact wpAny_pure h
    | exact wpAny_pure (wpAny_bind (wpAny_pure (wpAny_pure h)))
theorem kit_err {K : PySem.W.Frag} {x D : Addr} {ox od : Obj} (C : ExcC K D) : PySem.W.KitX K (.ref x) (.ref D) (fun h => PySem.W.InstAt h x ox D (some od)) where
  ty := fun _ _ _ J => J.type
  it := fun _ _ hK _ => by
    obtain ⟨cdD, hcD, _⟩ := PySem.W.any_some C.hd
    unfold PySem.W.clsIn at hcD
    split at hcD
    · rename_i c' d' cd' sl' ho
      intro A' Q' E' s' kk q
      unfold isType loadHead
      exact wpAny_bind (wpAny_loadPart (kk _ _ (hK _ _ ho)) (wpAny_pure q))
    · cases hcD
  ne := fun h tp dd its n sl hK htp => by
    obtain ⟨cdD, hcD, _⟩ := PySem.W.any_some C.hd
    refine Bool.eq_false_iff.mpr fun q => ?_
    have e : D = tp := Value.ref.inj (beq_iff_eq.mp q)
    subst e
    unfold PySem.W.clsIn at hcD
    split at hcD
    · rename_i c' d' cd' sl' ho
      have z := (hK _ _ ho).symm.trans htp
      cases z
    · cases hcD
  ca := fun hK J q => class_of_err C hK J q
def rIsEd (K : PySem.W.Frag) (a : Addr) (cls : Value) (d : Option Addr) (D : Addr) : List V → Hp → VK → Prop := fun xs H Q => ∃ (c : V) (cv : Value) (b : Bool) (dd : Addr) (fs : List (Str × V)), xs = [.ref a, c] ∧ cls = .ref D ∧ d = some dd ∧ ClsV c cv ∧ PySem.W.kitOne K (.ref D) cv = some b ∧ H dd = some (.xd fs) ∧ Q (.bl b) H
theorem call_isEd {a D : Addr} {cls : Value} {d : Option Addr} {oe : Obj} {pn : List (Addr × Obj)} (C : ExcC X.K D) (hz : Zc cls d oe) (hf : ∃ vs, oe.data = .fields vs) : CallR (X.suite a ((a, oe) :: pn)) (.builtin "isinstance") (rIsEd X.K a cls d D) := by
  intro pins s σ H xs us Q I r h
  obtain ⟨c, cv, b, dd, fs, rfl, e1, e2, hcv, e, hd, q⟩ := h
  subst e1
  subst e2
  obtain ⟨u, w', rfl, ru, rw'⟩ := vals2 r
  obtain rfl : u = Value.ref a := ru
  obtain rfl := hcv.eq rw'
  obtain ⟨hget, _⟩ := I.pin (a, oe) (List.mem_append.mpr (.inl List.mem_cons_self))
  obtain ⟨vs, hv⟩ := hf
  have hx : ObjOk X.prog X.w H s.heap dd (.xd fs) := I.hok dd _ hd
  obtain ⟨mA, hns, hrel⟩ := hx
  obtain ⟨od, ho, hl⟩ := lookIn_ns hns
  have J : PySem.W.InstAt s.heap a oe D (some od) := ⟨hget, hz.1, by unfold PySem.W.notCls; rw [hv] <;> rfl, by rw [hz.2]; exact ho⟩
  exact PySem.W.kia_one (kit_err C) I.kIn J e (fun z => nomatch z) fun tk => ⟨.bl b, H, I.kept (t' := tk) fun _ _ z => z, rfl, q⟩
end

/-! ### isinstance by the written part; keywords in another order -/
theorem kit_self {K : PySem.W.Frag} {C : Addr} : PySem.W.kitOne K (.ref C) (.ref C) = some true := by
  unfold PySem.W.kitOne
  rw [if_pos (by simp)]
theorem kit_sub {K : PySem.W.Frag} {t : Value} {C : Addr} {b : Bool} (ic : PySem.W.isClsIn K C = true) (ty : PySem.W.typeIn K (.ref C) = some (.type "type")) (su : PySem.W.subIn K t (.ref C) = some b) (ne : t ≠ .ref C) : PySem.W.kitOne K t (.ref C) = some b := by
  unfold PySem.W.kitOne
  rw [if_neg (by simpa using ne)]
  show (if ((PySem.W.clsIn K C).isSome && PySem.W.typeIn K (.ref C) == some (.type "type")) = true then PySem.W.subIn K t (.ref C) else none) = some b
  rw [ty, show (PySem.W.clsIn K C).isSome = true from ic, if_pos (by simp)]
  exact su
theorem kit_not {K : PySem.W.Frag} {t : Value} {C : Addr} (ic : PySem.W.isClsIn K C = true) (ty : PySem.W.typeIn K (.ref C) = some (.type "type")) (su : PySem.W.subIn K t (.ref C) = some false) (ne : t ≠ .ref C) : PySem.W.kitOne K t (.ref C) = some false := kit_sub ic ty su ne
def permL {α : Type} (is : List Nat) (ws : List α) : List α := is.filterMap fun i => ws[i]?
theorem permL_rel (is : List Nat) {zs : List V} {ws : List Value} (r : Vals zs ws) : Vals (permL is zs) (permL is ws) := by
  induction is with
  | nil => exact .nil
  | cons i is ih =>
    unfold permL at ih ⊢
    rw [List.filterMap_cons, List.filterMap_cons]
    cases e : zs[i]? with
    | none =>
      rw [r.none_of e]
      exact ih
    | some x =>
      obtain ⟨u, hu, ru⟩ := r.get e
      rw [hu]
      exact .cons ru ih
end My

/-! My own rules about operators of own classes: + - * with an instance or an int on either side, in place, unary minus, == with either answer, != of two lists with the same items. -/
namespace My
open PySem PySem.Spec PyProof.Rows L2

section
variable {X : Cx} {CX : CXT} {k : Nat} {C f : Addr} {fd : FuncData} {ps : List Str} {sp : Sp} {E : XK}
theorem run_own {pins : List (Addr × Obj)} {s : Shared} {σ : L2.St} {H : Hp} {Q : VK} {us : List Value} {vs : List V} (F : FnOk X.prog X.w X.K X.mg X.base CX k f fd ps sp) (hr : Room k X.A) (hb : Binds X.K fd ps []) (hx : Passes CX X E)
    (I : Inv X pins σ H s) (r : Vals vs us) (h : sp vs H Q E) : wpAny (model X.prog X.w) X.A (call (.ref f) us) (EP X pins σ Q) X.xe s := by
  have hl : (us ++ []).length = ps.length := by
    rw [List.append_nil, ← F.len _ _ _ _ h]
    exact r.length.symm
  refine wpAny_call (codeAny_mono (F.run X.A X.stack s H ⟨us, []⟩ us vs _ E hr I.env0 (by
    have := hb s us I.kIn hl
    rw [List.append_nil] at this
    exact this) r h) fun r s' hq => ?_)
  cases r with
  | error e => exact hx pins σ H s e s' I hq
  | ok fl =>
    cases fl with
    | ret w => exact I.after hq
    | next => exact False.elim hq
    | brk => exact False.elim hq
    | cont => exact False.elim hq
/-- what is handed back is no NotImplemented -/
theorem back_of {pins : List (Addr × Obj)} {σ : L2.St} {Q : VK} {v : Value} {s : Shared} (h : EP X pins σ Q v s) : PySem.W.CmpBack (EP X pins σ Q) v s := by
  obtain ⟨x, H, I, r, q⟩ := id h
  cases x with
  | non => obtain rfl : v = Value.none := r; exact h
  | bl b => obtain rfl : v = Value.bool b := r; exact h
  | int i => obtain ⟨t, rfl⟩ := r; exact h
  | str i => obtain ⟨t, rfl⟩ := r; exact h
  | byt i => obtain ⟨t, rfl⟩ := r; exact h
  | flt i => obtain ⟨t, rfl⟩ := r; exact h
  | ref a => obtain rfl : v = Value.ref a := r; exact h
  | ty n => obtain rfl : v = Value.type n := r; exact h

/-! ### the unary minus -/
def rNegO (C : Addr) (sp : Sp) (E : XK) : V → Hp → VK → Prop := fun x H Q => ∃ a dx fs, x = .ref a ∧ H a = some (.ins C dx fs) ∧ sp [.ref a] H Q E
theorem un_negO (hs : PySem.W.findIn X.K (.ref C) "__neg__" = some (some (.ref f))) (hf : PySem.W.isFn X.K (.ref f) = true) (F : FnOk X.prog X.w X.K X.mg X.base CX k f fd ps sp) (hr : Room k X.A) (hb : Binds X.K fd ps []) (hx : Passes CX X E) :
    UnR X (unaryOp .USub) (rNegO C sp E) := by
  intro pins s σ H x v Q I rx h
  obtain ⟨a, dx, fs, rfl, ea, q⟩ := h
  obtain rfl : v = Value.ref a := rx
  obtain ⟨mA, J, _⟩ := ins_get I.hok ea
  obtain ⟨od, J, _⟩ := J.look
  obtain ⟨m, hF⟩ := I.fr
  exact PySem.W.ksp_neg hF I.ok.mod.kin J hs hf (run_own (vs := [V.ref a]) F hr hb hx I (.cons rfl .nil) q)

/-! ### the operators with two sides -/
/-- what of the text an operator must have -/
structure OpO (K : PySem.W.Frag) (C : Addr) (nm : String) (f g : Addr) : Prop where
  sf : PySem.W.selfFirst K C = true
  ls : PySem.W.findIn K (.ref C) (PySem.dunder nm) = some (some (.ref f))
  lf : PySem.W.isFn K (.ref f) = true
  rs : PySem.W.findIn K (.ref C) (dunderR nm) = some (some (.ref g))
  rf : PySem.W.isFn K (.ref g) = true
  i1 : ∃ fo, PySem.W.findIn K (.type "int") (PySem.dunder nm) = some fo
  i2 : ∃ ro, PySem.W.findIn K (.type "int") (dunderR nm) = some ro
  su : PySem.W.subIn K (.type "int") (.ref C) = some false
  us : PySem.W.subIn K (.ref C) (.type "int") = some false
/-- int declines -/
structure Dec (nm : String) (id : String) (B : Builtin) : Prop where
  slot : Slot "int" (PySem.dunder nm) id
  entry : entryFor table id = some B
  args : ∀ a b, argsOk id ⟨[a, b], []⟩
  fills : fillsNumberSlot (.type "int") nm = pure true
  body : ∀ (a : Int) (t : Tok) (l C dx : Addr), Meets (B ⟨[.int a t, .ref l], []⟩) (fun _ R s => s.heap.get? l = some (PySem.W.instObj C dx) ∧ R (.ok (.ret Value.notImplemented)) s)
theorem dec_add : Dec "add" "int.__add__" Builtin.«int.__add__» := ⟨F.slot_int_add, F.entry_int_add, F.args_int_add_2, F.fills_int_add, fun a t l C dx => .of_wp fun prog w A R s h => by obtain ⟨hp, g, d, tk, os⟩ := s; obtain ⟨hl, h⟩ := h; wp_walk; exact ⟨_, rfl, h⟩⟩
theorem dec_sub : Dec "sub" "int.__sub__" Builtin.«int.__sub__» := ⟨F.slot_int_sub, F.entry_int_sub, F.args_int_sub_2, F.fills_int_sub, fun a t l C dx => .of_wp fun prog w A R s h => by obtain ⟨hp, g, d, tk, os⟩ := s; obtain ⟨hl, h⟩ := h; wp_walk; exact ⟨_, rfl, h⟩⟩
theorem dec_mul : Dec "mul" "int.__mul__" Builtin.«int.__mul__» := ⟨F.slot_int_mul, F.entry_int_mul, F.args_int_mul_2, F.fills_int_mul, fun a t l C dx => .of_wp fun prog w A R s h => by obtain ⟨hp, g, d, tk, os⟩ := s; obtain ⟨hl, h⟩ := h; wp_walk; exact ⟨_, rfl, h⟩⟩

section
variable {prog : Program} {w : World} {A : Around} {Ex : Value → Shared → Prop} {s : Shared} {K : PySem.W.Frag} {C f g : Addr} {nm : String}
open PySem.W
theorem b1_own {x y : Addr} {odx ody : Option Obj} {ox oy : Obj} {Q : Value → Shared → Prop} (X : K.In s.heap) (O : OpO K C nm f g) (I : InstAt s.heap x ox C odx) (J : InstAt s.heap y oy C ody)
    (h : wpAny (model prog w) A (call (.ref f) [.ref x, .ref y]) (PySem.W.CmpBack Q) Ex s) : wpAny (model prog w) A (binaryOp1 nm (.ref x) (.ref y)) (fun r s' => ∃ v, r = some v ∧ Q v s') Ex s := by
  obtain ⟨cd, rest, hcd, hm⟩ := ksp_first O.sf
  unfold binaryOp1
  refine wpAny_bind (I.type.here (wpAny_bind (J.type.here (wpAny_bind ((fills_K X hcd hm O.ls).here ?_)))))
  simp only [beq_self_eq_true, if_true]
  refine wpAny_bind (wpAny_pure ?_)
  simp only [Bool.and_false, Bool.false_eq_true, if_false, Bool.false_and]
  refine wpAny_bind (wpAny_pure ?_)
  simp only [Bool.false_eq_true, if_false]
  refine wpAny_bind (m := tryMethod (.ref x) _ (.ref y)) (wpAny_mono (ksp_try X I O.ls O.lf h) (fun r s' hr => ?_) fun _ _ e => e)
  obtain ⟨v, rfl, hq⟩ := hr
  exact wpAny_pure ⟨v, rfl, hq⟩
theorem b1_int {x : Addr} {i : Int} {t : Tok} {odx : Option Obj} {ox : Obj} {Q : Value → Shared → Prop} (X : K.In s.heap) (O : OpO K C nm f g) (I : InstAt s.heap x ox C odx)
    (h : wpAny (model prog w) A (call (.ref f) [.ref x, .int i t]) (PySem.W.CmpBack Q) Ex s) : wpAny (model prog w) A (binaryOp1 nm (.ref x) (.int i t)) (fun r s' => ∃ v, r = some v ∧ Q v s') Ex s := by
  obtain ⟨cd, rest, hcd, hm⟩ := ksp_first O.sf
  obtain ⟨fo, h1⟩ := O.i1
  obtain ⟨ro, h2⟩ := O.i2
  have one := ksp_try X I O.ls O.lf h
  obtain ⟨hh, gg, d, tt, os⟩ := s
  have L1 : Looks (model prog w) hh (typeOf (.ref x)) (.ref C) := I.type
  have L2 : Looks (model prog w) hh (typeOf (.int i t)) (.type "int") := Looks.of_pure rfl
  have L3 : Looks (model prog w) hh (fillsNumberSlot (.ref C) nm) true := fills_K X hcd hm O.ls
  have L4 : Looks (model prog w) hh (fillsNumberSlot (.type "int") nm) ((fo.isSome && !isSeqSlot fo) || (ro.isSome && !isSeqSlot ro)) := ksp_fillsT X h1 h2
  have L5 : Looks (model prog w) hh (isSubtype (.type "int") (.ref C)) false := looks_subIn X O.su
  have L6 : Looks (model prog w) hh (numberSlotInPython (.ref C) nm) true := ksp_inPy X O.ls O.rs (.inr ⟨_, rfl⟩)
  have L7 : Looks (model prog w) hh (numberSlotInPython (.type "int") nm) false := Looks.of_pure rfl
  have L8 : Looks (model prog w) hh (typeLookup (.type "int") (dunderR nm)) ro := looks_findIn X h2
  generalize ((fo.isSome && !isSeqSlot fo) || (ro.isSome && !isSeqSlot ro)) = right at L4
  have hne : (Value.ref C == Value.type "int") = false := Bool.eq_false_iff.mpr fun q => by cases beq_iff_eq.mp q
  unfold binaryOp1
  refine wpAny_bind (L1.at (wpAny_bind (L2.at (wpAny_bind (L3.at ?_)))))
  simp only [hne, Bool.false_eq_true, if_false]
  cases right with
  | false =>
    ksp_lk
    refine wpAny_mono one (fun r s' hr' => ?_) fun _ _ e => e
    obtain ⟨v, rfl, hq⟩ := hr'
    ksp_lk
    exact ⟨v, rfl, hq⟩
  | true =>
    ksp_lk
    refine wpAny_mono one (fun r s' hr' => ?_) fun _ _ e => e
    obtain ⟨v, rfl, hq⟩ := hr'
    ksp_lk
    exact ⟨v, rfl, hq⟩
theorem b1_rint {x dx : Addr} {i : Int} {t : Tok} {odx : Option Obj} {id : String} {B : Builtin} {Q : Value → Shared → Prop} (D : Dec nm id B) (X : K.In s.heap) (O : OpO K C nm f g) (I : InstAt s.heap x (instObj C dx) C odx)
    (h : wpAny (model prog w) A (call (.ref g) [.ref x, .int i t]) (PySem.W.CmpBack Q) Ex s) : wpAny (model prog w) A (binaryOp1 nm (.int i t) (.ref x)) (fun r s' => ∃ v, r = some v ∧ Q v s') Ex s := by
  obtain ⟨cd, rest, hcd, hm⟩ := ksp_first O.sf
  have one := ksp_try X I O.rs O.rf h
  have two : wpAny (model prog w) A (tryMethod (.int i t) (PySem.dunder nm) (.ref x)) (fun r s' => r = none ∧ s' = s) Ex s :=
    wpAny_tryMethod_declines (typeIs_int s i t) D.slot (call_meets D.slot (typeIs_int s i t) D.entry (D.args _ _) (D.body i t x C dx) ⟨I.at_, rfl, rfl, rfl⟩)
  have L1 : Looks (model prog w) s.heap (typeOf (.ref x)) (.ref C) := I.type
  have L3 : Looks (model prog w) s.heap (fillsNumberSlot (.ref C) nm) true := fills_K X hcd hm O.ls
  have L5 : Looks (model prog w) s.heap (isSubtype (.ref C) (.type "int")) false := looks_subIn X O.us
  have hne : (Value.type "int" == Value.ref C) = false := Bool.eq_false_iff.mpr fun q => by cases beq_iff_eq.mp q
  have hpy : numberSlotInPython (.type "int") nm = pure false := rfl
  unfold binaryOp1
  refine wpAny_bind (wpAny_typeOf (typeIs_int s i t) (wpAny_bind (L1.here (wpAny_bind (wpAny_of_eq D.fills ?_)))))
  simp only [hne, Bool.false_eq_true, if_false]
  refine wpAny_bind (L3.here ?_)
  simp only [Bool.and_self, if_true]
  refine wpAny_bind (L5.here ?_)
  simp only [Bool.false_eq_true, if_false, pure_bind, Bool.not_false, Bool.and_self, if_true, hpy]
  refine wpAny_bind (wpAny_mono two (fun r s' hr => ?_) fun _ _ e => e)
  obtain ⟨rfl, rfl⟩ := hr
  refine wpAny_bind (wpAny_mono one (fun r s' hr => ?_) fun _ _ e => e)
  obtain ⟨v, rfl, hq⟩ := hr
  ksp_lk
  exact ⟨v, rfl, hq⟩
end

/-! ### the operators as rules -/
section
variable {X : Cx} {CX CX' : CXT} {k k' : Nat} {C f g : Addr} {fd fd' : FuncData} {ps ps' : List Str} {sp sp' : Sp} {E : XK} {op : Operator}
theorem op_or {F : Value → Value → Sem Value} {r1 r2 : R2} (a : OpR X F r1) (b : OpR X F r2) : OpR X F (fun x y H Q => r1 x y H Q ∨ r2 x y H Q) := by
  intro pins s σ H x y v u Q I rx ry h
  rcases h with h | h
  · exact a pins s σ H x y v u Q I rx ry h
  · exact b pins s σ H x y v u Q I rx ry h
theorem un_or {F : Value → Sem Value} {r1 r2 : V → Hp → VK → Prop} (a : UnR X F r1) (b : UnR X F r2) : UnR X F (fun x H Q => r1 x H Q ∨ r2 x H Q) := by
  intro pins s σ H x v Q I rx h
  rcases h with h | h
  · exact a pins s σ H x v Q I rx h
  · exact b pins s σ H x v Q I rx h
def rOO (C : Addr) (sp : Sp) (E : XK) : R2 := fun x y H Q => ∃ a dx fs b dy gs, x = .ref a ∧ y = .ref b ∧ H a = some (.ins C dx fs) ∧ H b = some (.ins C dy gs) ∧ sp [.ref a, .ref b] H Q E
def rOI (C : Addr) (sp : Sp) (E : XK) : R2 := fun x y H Q => ∃ a dx fs i, x = .ref a ∧ y = .int i ∧ H a = some (.ins C dx fs) ∧ sp [.ref a, .int i] H Q E
def rIO (C : Addr) (sp : Sp) (E : XK) : R2 := fun x y H Q => ∃ b dy gs i, x = .int i ∧ y = .ref b ∧ H b = some (.ins C dy gs) ∧ sp [.ref b, .int i] H Q E
theorem b1_oo {nm : String} (O : OpO X.K C nm f g) (F : FnOk X.prog X.w X.K X.mg X.base CX k f fd ps sp) (hr : Room k X.A) (hb : Binds X.K fd ps []) (hx : Passes CX X E)
    {pins : List (Addr × Obj)} {s : Shared} {σ : L2.St} {H : Hp} {x y : V} {v u : Value} {Q : VK} (I : Inv X pins σ H s) (rx : RelV x v) (ry : RelV y u) (h : rOO C sp E x y H Q) :
    wpAny (model X.prog X.w) X.A (binaryOp1 nm v u) (fun r s' => ∃ z, r = some z ∧ EP X pins σ Q z s') X.xe s := by
  obtain ⟨a, dx, fs, b, dy, gs, rfl, rfl, ea, eb, q⟩ := h
  obtain rfl : v = Value.ref a := rx
  obtain rfl : u = Value.ref b := ry
  obtain ⟨mA, J, _⟩ := ins_get I.hok ea
  obtain ⟨od, J, _⟩ := J.look
  obtain ⟨mB, J', _⟩ := ins_get I.hok eb
  obtain ⟨od', J', _⟩ := J'.look
  exact b1_own I.kIn O J J' (wpAny_mono (run_own (vs := [V.ref a, V.ref b]) F hr hb hx I (.cons rfl (.cons rfl .nil)) q) (fun _ _ z => back_of z) fun _ _ e => e)
theorem b1_oi {nm : String} (O : OpO X.K C nm f g) (F : FnOk X.prog X.w X.K X.mg X.base CX k f fd ps sp) (hr : Room k X.A) (hb : Binds X.K fd ps []) (hx : Passes CX X E)
    {pins : List (Addr × Obj)} {s : Shared} {σ : L2.St} {H : Hp} {x y : V} {v u : Value} {Q : VK} (I : Inv X pins σ H s) (rx : RelV x v) (ry : RelV y u) (h : rOI C sp E x y H Q) :
    wpAny (model X.prog X.w) X.A (binaryOp1 nm v u) (fun r s' => ∃ z, r = some z ∧ EP X pins σ Q z s') X.xe s := by
  obtain ⟨a, dx, fs, i, rfl, rfl, ea, q⟩ := h
  obtain rfl : v = Value.ref a := rx
  obtain ⟨t, rfl⟩ := ry
  obtain ⟨mA, J, _⟩ := ins_get I.hok ea
  obtain ⟨od, J, _⟩ := J.look
  exact b1_int I.kIn O J (wpAny_mono (run_own (vs := [V.ref a, V.int i]) F hr hb hx I (.cons rfl (.cons ⟨t, rfl⟩ .nil)) q) (fun _ _ z => back_of z) fun _ _ e => e)
theorem b1_io {nm : String} {id : String} {B : Builtin} (D : Dec nm id B) (O : OpO X.K C nm f g) (F : FnOk X.prog X.w X.K X.mg X.base CX k g fd ps sp) (hr : Room k X.A) (hb : Binds X.K fd ps []) (hx : Passes CX X E)
    {pins : List (Addr × Obj)} {s : Shared} {σ : L2.St} {H : Hp} {x y : V} {v u : Value} {Q : VK} (I : Inv X pins σ H s) (rx : RelV x v) (ry : RelV y u) (h : rIO C sp E x y H Q) :
    wpAny (model X.prog X.w) X.A (binaryOp1 nm v u) (fun r s' => ∃ z, r = some z ∧ EP X pins σ Q z s') X.xe s := by
  obtain ⟨b, dx, fs, i, rfl, rfl, ea, q⟩ := h
  obtain rfl : u = Value.ref b := ry
  obtain ⟨t, rfl⟩ := rx
  obtain ⟨mA, J, _⟩ := ins_get I.hok ea
  obtain ⟨od, J, _⟩ := J.look
  exact b1_rint D I.kIn O J (wpAny_mono (run_own (vs := [V.ref b, V.int i]) F hr hb hx I (.cons rfl (.cons ⟨t, rfl⟩ .nil)) q) (fun _ _ z => back_of z) fun _ _ e => e)
theorem bin_of {M : Model} {A : Around} {Ex : Value → Shared → Prop} {s : Shared} {nm : String} (hn : op.info.2 = nm) {v u : Value} {R : Value → Shared → Prop} (h : wpAny M A (binaryOp1 nm v u) (fun r s' => ∃ z, r = some z ∧ R z s') Ex s) : wpAny M A (binaryOp op v u) R Ex s := by
  unfold binaryOp
  refine wpAny_holding (wpAny_bind ?_)
  subst hn
  refine wpAny_mono (show wpAny M A (binaryOp1 op.info.2 v u) _ _ _ from h) (fun r s' hr => ?_) fun _ _ e => e
  obtain ⟨z, rfl, q⟩ := hr
  exact wpAny_pure q
theorem op_oo {nm : String} (hn : op.info.2 = nm) (O : OpO X.K C nm f g) (F : FnOk X.prog X.w X.K X.mg X.base CX k f fd ps sp) (hr : Room k X.A) (hb : Binds X.K fd ps []) (hx : Passes CX X E) : OpR X (binaryOp op) (rOO C sp E) :=
  fun _ _ _ _ _ _ _ _ _ I rx ry h => bin_of hn (b1_oo O F hr hb hx I rx ry h)
theorem op_oi {nm : String} (hn : op.info.2 = nm) (O : OpO X.K C nm f g) (F : FnOk X.prog X.w X.K X.mg X.base CX k f fd ps sp) (hr : Room k X.A) (hb : Binds X.K fd ps []) (hx : Passes CX X E) : OpR X (binaryOp op) (rOI C sp E) :=
  fun _ _ _ _ _ _ _ _ _ I rx ry h => bin_of hn (b1_oi O F hr hb hx I rx ry h)
theorem op_io {nm : String} {id : String} {B : Builtin} (hn : op.info.2 = nm) (D : Dec nm id B) (O : OpO X.K C nm f g) (F : FnOk X.prog X.w X.K X.mg X.base CX k g fd ps sp) (hr : Room k X.A) (hb : Binds X.K fd ps []) (hx : Passes CX X E) : OpR X (binaryOp op) (rIO C sp E) :=
  fun _ _ _ _ _ _ _ _ _ I rx ry h => bin_of hn (b1_io D O F hr hb hx I rx ry h)
/-! ### in place, without a method of its own for it -/
structure NoI (K : PySem.W.Frag) (C : Addr) (nm : String) : Prop where
  mro : ∃ cd, PySem.W.clsIn K C = some cd ∧ cd.mro = [.ref C, .type "object"]
  own : PySem.W.findIn K (.ref C) (dunderI nm) = some none
  obj : PySem.W.findIn K (.type "object") (dunderI nm) = some none
open PySem.W in
theorem looks_noI {M : Model} {h : Heap} {nm : String} {add : Bool} {K : Frag} (X : K.In h) (N : NoI K C nm) : Looks M h (fillsInplaceSlot (.ref C) nm add) false := by
  intro A Q E s k q
  obtain ⟨cd, hc, hm⟩ := N.mro
  have Lm : Looks M h (mroOf (.ref C)) cd.mro := (looks_clsIn X hc).andThen (f := fun cd => pure cd.mro) .now
  have Lm' := Lm.keeps k
  obtain ⟨hh, g, d, tt, os⟩ := s
  have X' : K.In hh := X.keeps k
  have L1 : Looks M hh (typeLookup (.ref C) (dunderI nm)) none := looks_findIn X' N.own
  have L2 : Looks M hh (typeLookup (.type "object") (dunderI nm)) none := looks_findIn X' N.obj
  unfold fillsInplaceSlot
  refine wpAny_bind (Lm'.at ?_)
  rw [hm, List.anyM_cons]
  refine wpAny_bind (wpAny_bind (L1.at ?_))
  refine wpAny_pure ?_
  rw [if_neg Bool.false_ne_true, List.anyM_cons]
  refine wpAny_bind (wpAny_bind (L2.at ?_))
  refine wpAny_pure ?_
  rw [if_neg Bool.false_ne_true]
  exact wpAny_pure q
theorem inp_of {M : Model} {A : Around} {Ex : Value → Shared → Prop} {s : Shared} {nm : String} {K : PySem.W.Frag} {a dx : Addr} {ox : Obj} {od : Option Obj} (hn : op.info.2 = nm) (X : K.In s.heap) (I : PySem.W.InstAt s.heap a ox C od) (N : NoI K C nm) {u : Value} {R : Value → Shared → Prop}
    (h : wpAny M A (binaryOp1 nm (.ref a) u) (fun r s' => ∃ z, r = some z ∧ R z s') Ex s) : wpAny M A (inplaceOp op (.ref a) u) R Ex s := by
  subst hn
  unfold inplaceOp
  refine wpAny_holding ?_
  refine wpAny_bind (I.type.here ?_)
  refine wpAny_bind ((looks_noI X N).here ?_)
  rw [if_neg Bool.false_ne_true]
  refine wpAny_bind (wpAny_mono h (fun r s' hr => ?_) fun _ _ e => e)
  obtain ⟨z, rfl, q⟩ := hr
  exact wpAny_pure q
theorem iop_oo {nm : String} (hn : op.info.2 = nm) (N : NoI X.K C nm) (O : OpO X.K C nm f g) (F : FnOk X.prog X.w X.K X.mg X.base CX k f fd ps sp) (hr : Room k X.A) (hb : Binds X.K fd ps []) (hx : Passes CX X E) : OpR X (inplaceOp op) (rOO C sp E) := by
  intro pins s σ H x y v u Q I rx ry h
  have h' := b1_oo O F hr hb hx I rx ry h
  obtain ⟨a, dx, fs, b, dy, gs, rfl, rfl, ea, eb, q⟩ := h
  obtain rfl : v = Value.ref a := rx
  obtain ⟨mA, J, _⟩ := ins_get I.hok ea
  obtain ⟨od, J, _⟩ := J.look
  exact inp_of (dx := dx) hn I.kIn J N h'
theorem iop_oi {nm : String} (hn : op.info.2 = nm) (N : NoI X.K C nm) (O : OpO X.K C nm f g) (F : FnOk X.prog X.w X.K X.mg X.base CX k f fd ps sp) (hr : Room k X.A) (hb : Binds X.K fd ps []) (hx : Passes CX X E) : OpR X (inplaceOp op) (rOI C sp E) := by
  intro pins s σ H x y v u Q I rx ry h
  have h' := b1_oi O F hr hb hx I rx ry h
  obtain ⟨a, dx, fs, i, rfl, rfl, ea, q⟩ := h
  obtain rfl : v = Value.ref a := rx
  obtain ⟨mA, J, _⟩ := ins_get I.hok ea
  obtain ⟨od, J, _⟩ := J.look
  exact inp_of (dx := dx) hn I.kIn J N h'
/-! ### == by the class's own method, with either answer -/
theorem cmp_own (hs : PySem.W.findIn X.K (.ref C) "__eq__" = some (some (.ref f))) (hf : PySem.W.isFn X.K (.ref f) = true) (F : FnOk X.prog X.w X.K X.mg X.base CX k f fd ps sp) (hr : Room k X.A) (hb : Binds X.K fd ps []) (hx : Passes CX X E) : OpR X (compareOp .Eq) (rOO C sp E) := by
  intro pins s σ H x y v u Q I rx ry h
  obtain ⟨a, dx, fs, b, dy, gs, rfl, rfl, ea, eb, q⟩ := h
  obtain rfl : v = Value.ref a := rx
  obtain rfl : u = Value.ref b := ry
  obtain ⟨mA, J, _⟩ := ins_get I.hok ea
  obtain ⟨od, J, _⟩ := J.look
  obtain ⟨mB, J', _⟩ := ins_get I.hok eb
  obtain ⟨od', J', _⟩ := J'.look
  obtain ⟨m, hF⟩ := I.fr
  show wpAny (model X.prog X.w) X.A (richCompare .Eq (.ref a) (.ref b)) (EP X pins σ Q) X.xe s
  refine PySem.W.cmp_K (op := .Eq) (tb := .ref C) hr.units0 hF I.ok.mod.kin J J'.type (by simp [PySem.W.notFirst]) hs hf ?_
  exact wpAny_mono (run_own (vs := [V.ref a, V.ref b]) F hr hb hx I (.cons rfl (.cons rfl .nil)) q) (fun _ _ z => back_of z) fun _ _ e => e
/-! ### != of two lists with the same items -/
def plainV : V → Bool
  | .int _ => true
  | .ref _ => true
  | _ => false
def rNeSame (K : PySem.W.Frag) : R2 := fun x y H Q => ∃ a b xs, x = .ref a ∧ y = .ref b ∧ SqL K H a xs ∧ SqL K H b xs ∧ (∀ z ∈ xs, plainV z = true) ∧ Q (.bl false) H
theorem eqAt_same {A : Around} {s : Shared} {z : V} {u v : Value} (h : plainV z = true) (r : RelV z u) (r' : RelV z v) : SeqAt.EqAt A s u v true := by
  cases z with
  | int i =>
    have := eqAt_V (A := A) (s := s) r r' rfl rfl
    have e : eqV (.int i) (.int i) = true := by simp [eqV]
    rw [e] at this
    exact this
  | ref a =>
    obtain rfl : u = Value.ref a := r
    obtain rfl : v = Value.ref a := r'
    exact SeqAt.EqAt.same _
  | _ => cases h
theorem op_neSame (hu : X.A.units < cLine) : OpR X (compareOp .NotEq) (rNeSame X.K) := by
  intro pins s σ H x y v u Q I rx ry h
  obtain ⟨a, b, xs, rfl, rfl, ha, hb, hp, q⟩ := h
  obtain rfl : v = Value.ref a := rx
  obtain rfl : u = Value.ref b := ry
  obtain ⟨its, r, ⟨o, n, e, c, d, dt⟩, _⟩ := I.list ha
  obtain ⟨its2, r2, ⟨o2, n2, e2, c2, d2, dt2⟩, _⟩ := I.list hb
  have hsz : its.toArray.size = its2.toArray.size := by rw [List.size_toArray, List.size_toArray, ← r.length, ← r2.length]
  show wpAny (model X.prog X.w) X.A (richCompare .NotEq (.ref a) (.ref b)) (EP X pins σ Q) X.xe s
  refine SeqAt.RcNeAt.lists (e := fun _ => true) ⟨o, e, c, n, dt⟩ ⟨o2, e2, c2, n2, dt2⟩ hsz hu (fun j h1 h2 => ?_) _ _ _ _ ?_
  · have k1 : j < xs.length := by rw [r.length]; simpa using h1
    obtain ⟨w1, hw1, rw1⟩ := r.get (List.getElem?_eq_getElem k1)
    obtain ⟨w2, hw2, rw2⟩ := r2.get (List.getElem?_eq_getElem k1)
    have g1 : its[j]? = some its.toArray[j] := by
      have h1' : j < its.length := by simpa using h1
      rw [List.getElem?_eq_getElem h1'] <;> simp
    have g2 : its2[j]? = some its2.toArray[j] := by
      have h2' : j < its2.length := by simpa using h2
      rw [List.getElem?_eq_getElem h2'] <;> simp
    rw [g1] at hw1
    rw [g2] at hw2
    rw [Option.some.inj hw1, Option.some.inj hw2]
    exact eqAt_same (hp _ (List.getElem_mem k1)) rw1 rw2
  · have e : (!(List.range its.toArray.size).all fun _ => true) = false := by simp
    rw [e]
    exact ⟨.bl false, H, I, rfl, q⟩
end
/-! ### list or tuple -/
section
variable {X : Cx}
theorem ix_or {r1 r2 : R2} (a : IxR X r1) (b : IxR X r2) : IxR X (fun x y H Q => r1 x y H Q ∨ r2 x y H Q) := by
  intro value slice pins s σ H x y v u Q I rx ry h
  rcases h with h | h
  · exact a value slice pins s σ H x y v u Q I rx ry h
  · exact b value slice pins s σ H x y v u Q I rx ry h
def iSeq (K : PySem.W.Frag) (tl : TE) : TI := fun σ H R => tl σ H fun x H1 => ∃ a, x = .ref a ∧ (((∃ xs, SqL K H1 a xs) ∧ R (Itl K a) H1) ∨ ((∃ xs, SqT K H1 a xs) ∧ R (Itt K a) H1))
theorem pi_seq {tg l : Expr} {tl : TE} (hl : PE X l tl) : PI X tg l (iSeq X.K tl) := by
  refine ⟨fun pins s σ H R I h => ?_⟩
  refine thn (hl.run pins s σ H _ I h) fun v s1 ⟨x, H1, I1, r1, q1⟩ => ?_
  obtain ⟨a, e, ⟨⟨xs, hq⟩, q⟩ | ⟨⟨xs, hq⟩, q⟩⟩ := q1
  · subst e
    cases r1
    obtain ⟨its, rv, p, hz⟩ := I1.list hq
    refine wpAny_pyIter_list p.isList ?_
    refine ⟨s1.heap.objs.size, [s1.heap.objs.size], _, _, H1, rfl, I1.kept (t' := s1.toks) fun b o e => Heap.get?_push_of_some _ e, turn_list a _, ⟨_, Heap.get?_push_size _ rfl, rfl, rfl⟩, fun b hb => ?_, q⟩
    have e : b = s1.heap.objs.size := by simpa using hb
    subst e
    exact I1.fpOk (Nat.le_refl _) (I1.hok.fresh (Nat.le_refl _))
  · subst e
    cases r1
    obtain ⟨its, rv, p, hz⟩ := I1.tuple hq
    refine wpAny_pyIter_tuple (show s1.heap.IsTuple a its.toArray from p) ?_
    refine ⟨s1.heap.objs.size, [s1.heap.objs.size], _, _, H1, rfl, I1.kept (t' := s1.toks) fun b o e => Heap.get?_push_of_some _ e, turn_tuple a _, ⟨_, Heap.get?_push_size _ rfl, rfl, rfl⟩, fun b hb => ?_, q⟩
    have e : b = s1.heap.objs.size := by simpa using hb
    subst e
    exact I1.fpOk (Nat.le_refl _) (I1.hok.fresh (Nat.le_refl _))
end
end
end My

/-! My own rules about calls that raise: by keywords alone, at the caller's slots; through a def's body. -/
namespace My
open PySem PySem.Spec PyProof.Rows L2
section
variable {X : Cx} {CX : CXT} {k : Nat} {f : Addr} {fd : FuncData} {ps ks : List Str} {sp : Sp} {E : L2.St → XK} {x : Str} {p pos : Pos} {kws : List Keyword} {tk : TA} {g : List Value → List Value → List Value} {gV : List V → List V → List V}
theorem run_fnkS {pins : List (Addr × Obj)} {σ : L2.St} {H : Hp} {s : Shared} {Q : VK} {us ws : List Value} {vs zs : List V} (F : FnOk X.prog X.w X.K X.mg X.base CX k f fd ps sp) (hr : Room k X.A) (hb : KBinds X.K fd ps ks g gV) (hx : PassesAt CX X σ (E σ))
    (I : Inv X pins σ H s) (r : Vals vs us) (rz : Vals zs ws) (h : sp (gV vs zs) H Q (E σ)) : wpAny (model X.prog X.w) X.A (call (.ref f) us (ks.zip ws)) (EP X pins σ Q) X.xe s := by
  have r2 := hb.rel r rz
  have hl : (g us ws).length = ps.length := by rw [← r2.length]; exact F.len _ _ _ _ h
  refine wpAny_call (codeAny_mono (F.run X.A X.stack s H ⟨us, ks.zip ws⟩ (g us ws) (gV vs zs) Q (E σ) hr I.env0 (hb.to s us ws I.kIn hl) r2 h) fun r s' hq => ?_)
  cases r with
  | error e => exact hx pins H s e s' I hq
  | ok fl =>
    cases fl with
    | ret u => exact I.after hq
    | next => exact False.elim hq
    | brk => exact False.elim hq
    | cont => exact False.elim hq
def tCallK0S (sp : Sp) (gV : List V → List V → List V) (E : L2.St → XK) (tk : TA) : TE := fun σ H Q => tk σ H fun zs H2 => sp (gV [] zs) H2 Q (E σ)
theorem pe_callK0S (F : FnOk X.prog X.w X.K X.mg X.base CX k f fd ps sp) (hr : Room k X.A) (hg : Gl X x) (hm : X.mg x = some (.ref f)) (hk : PySem.W.keepIn X.K (.ref f) = true) (hb : KBinds X.K fd ps ks g gV) (hx : ∀ σ, PassesAt CX X σ (E σ))
    (hkw : PK X kws tk) (hall : (backToKw pos (keywordEach kws X.env)).all (·.1.isSome) = true := by rfl) (hks : (backToKw pos (keywordEach kws X.env)).filterMap (·.1) = ks := by rfl)
    (hdb : (x == ("__debug__" : Str)) = false := by decide)
    (hpl : ((backTo pos (starEach [] X.env)).any (·.1) || (backToKw pos (keywordEach kws X.env)).any (·.1.isNone)) = false := by rfl) :
    PE X (.Call (.Name x p) [] kws pos) (tCallK0S sp gV E tk) := by
  refine ⟨fun pins s σ H Q I h => ?_⟩
  refine wpAny_Call_Name_kw (ld_glob I hg hm ?_ hdb)
  refine PySem.W.callWith_KW0 (h₀ := X.base) I.ok.mod.kin hk hall (thn (hkw.run pos pins s σ H _ I h) fun ws s2 ⟨zs, H2, I2, rz, q2⟩ => ⟨I2.kIn, ?_⟩) hpl
  rw [hks]
  exact run_fnkS (us := []) (vs := []) F hr hb (hx σ) I2 .nil rz q2
end
section
variable {X : Cx} {E E' : XK}
/-- what a callee lets out leaves this def too -/
theorem passX (tk : Takes X (fun cls d _ H => E cls d H)) : Passes (L2.CX X.prog X.w) X E := fun pins σ H s e s' I c => L2.passes_call tk (fun _ _ _ _ h => h) pins σ H s e s' I c
end
end My

/-! My own rules: != by object.__ne__ over an own ==, x is a bool, o.m(k = v). -/
namespace My
open PySem PySem.Spec PyProof.Rows L2

section
variable {X : Cx} {CX : CXT} {k : Nat} {C f : Addr} {fd : FuncData} {ps : List Str} {sp : Sp} {E : XK}
/-- a method run below a built-in -/
theorem run_own1 {pins : List (Addr × Obj)} {s : Shared} {σ : L2.St} {H : Hp} {Q : VK} {us : List Value} {vs : List V} (F : FnOk X.prog X.w X.K X.mg X.base CX k f fd ps sp) (hr : Room (k + 1) X.A) (hb : Binds X.K fd ps []) (hx : Passes CX X E)
    (I : Inv X pins σ H s) (r : Vals vs us) (h : sp vs H Q E) : wpAny (model X.prog X.w) X.A.in1 (call (.ref f) us) (EP X pins σ Q) X.xe s := by
  have hl : (us ++ []).length = ps.length := by
    rw [List.append_nil, ← F.len _ _ _ _ h]
    exact r.length.symm
  refine wpAny_call (codeAny_mono (F.run X.A.in1 X.stack s H ⟨us, []⟩ us vs _ E hr.in1 I.env0.in1 (by
    have := hb s us I.kIn hl
    rw [List.append_nil] at this
    exact this) r h) fun r s' hq => ?_)
  cases r with
  | error e => exact hx pins σ H s e s' I hq
  | ok fl =>
    cases fl with
    | ret w => exact I.after hq
    | next => exact False.elim hq
    | brk => exact False.elim hq
    | cont => exact False.elim hq
/-- C has no != of its own -/
structure NoNe (K : PySem.W.Frag) (C f : Addr) : Prop where
  ne : PySem.W.findIn K (.ref C) "__ne__" = some (some (.builtin "object.__ne__"))
  ob : PySem.W.subIn K (.ref C) (.type "object") = some true
  eq : PySem.W.findIn K (.ref C) "__eq__" = some (some (.ref f))
  fn : PySem.W.isFn K (.ref f) = true
theorem ne_K {prog : Program} {w : World} {A : Around} {Ex : Value → Shared → Prop} {s : Shared} {K : PySem.W.Frag} {a b : Addr} {oa ob : Obj} {oda odb : Option Obj} {Q : Value → Shared → Prop} (hu : A.units + 1 < cLine) (X : K.In s.heap) (N : NoNe K C f)
    (I : PySem.W.InstAt s.heap a oa C oda) (J : PySem.W.InstAt s.heap b ob C odb) (h : wpAny (model prog w) A.in1 (call (.ref f) [.ref a, .ref b]) (fun v s' => ∃ r, v = .bool r ∧ Q (.bool (!r)) s') Ex s) :
    wpAny (model prog w) A (richCompare .NotEq (.ref a) (.ref b)) Q Ex s := by
  have body : wpAny (model prog w) A.in1 (Builtin.«object.__ne__» ⟨[.ref a, .ref b], []⟩) (fun fin s' => ∃ r, fin = .done (.ret (.bool (!r))) ∧ Q (.bool (!r)) s') Ex s := by
    unfold Builtin.«object.__ne__»
    refine wpAny_bind (wpAny_of_eq (a := ((Value.ref a : Value), [Value.ref b])) (by first | rfl | (simp only [slotArgs]; rfl)) ?_)
    refine wpAny_bind (wpAny_cRoomFor hu ?_)
    refine wpAny_bind (PySem.W.ifBound_K X I N.eq N.fn (wpAny_mono h (fun v s' hv => ?_) fun _ _ e => e))
    obtain ⟨r, rfl, q⟩ := hv
    refine wpAny_bind (wpAny_truthy_bool ?_)
    exact wpAny_pure ⟨r, rfl, q⟩
  have below : PySem.W.Looks (model prog w) s.heap (isInstance (.ref a) (.type "object")) true := I.type.andThen (PySem.W.looks_subIn X N.ob)
  have one : wpAny (model prog w) A (tryCompare (.ref a) "__ne__" (.ref b)) (fun r s' => ∃ t, r = some (.bool (!t)) ∧ Q (.bool (!t)) s') Ex s := by
    unfold tryCompare
    simp only [callSpecialIfBound?, bindSpecialIfBound?]
    refine wpAny_bind (wpAny_holding (wpAny_bind (wpAny_bind (wpAny_bind (I.type.here ((PySem.W.looks_findIn X N.ne).here ?_))))))
    simp only [F.cmp_object.ne.bind]
    refine wpAny_bind (wpAny_askSetting (wpAny_ite ?_))
    have fin : wpAny (model prog w) A (call (.builtin "object.__ne__") ([.ref a] ++ [.ref b]) >>= fun v => pure (some v)) (fun r s' => ∃ t, r = some (.bool (!t)) ∧ Q (.bool (!t)) s') Ex s := by
      refine wpAny_bind (wpAny_call (codeAny_call_builtin F.cmp_object.ne.plain F.cmpEntry_ne (PySem.W.check_slot F.cmpKind_ne F.cmpSplit_ne below (F.cmpArgs_ne _ _) (wpAny_mono body (fun fin s' hf => ?_) fun _ _ e => e))))
      obtain ⟨r, rfl, q⟩ := hf
      exact wpAny_pure ⟨r, rfl, q⟩
    have fin2 := wpAny_mono fin (Q' := fun a s' => wpAny (model prog w) A (match a with
        | some Value.notImplemented => pure none
        | none => pure none
        | some v => pure (some v)) (fun r s' => ∃ t, r = some (Value.bool !t) ∧ Q (Value.bool !t) s') Ex s') (fun r s' hr => by
      obtain ⟨t, rfl, q⟩ := hr
      exact wpAny_pure ⟨t, rfl, q⟩) fun _ _ e => e
    split
    · exact wpAny_pure (by exact fin2)
    · exact wpAny_tryCatch (wpAny_pure (by exact fin2))
  unfold richCompare
  simp only [oneThing_ref]
  refine wpAny_holding (wpAny_bind (wpAny_cRoomFor (by omega) ?_))
  refine wpAny_bind (I.type.here (wpAny_bind (J.type.here ?_)))
  split
  · rename_i q
    simp at q
  · refine wpAny_bind (wpAny_pure ?_)
    simp only [Bool.false_eq_true, if_false]
    refine wpAny_bind (wpAny_mono one (fun r s' z => ?_) fun _ _ e => e)
    obtain ⟨t, rfl, hq⟩ := z
    exact wpAny_pure hq
/-- x is y, two bools -/
theorem op_isB : OpR X (compareOp .Is) (fun x y H Q => ∃ a b, x = .bl a ∧ y = .bl b ∧ Q (.bl (decide (a = b))) H) := by
  intro pins s σ H x y v u Q I rx ry h
  obtain ⟨a, b, rfl, rfl, q⟩ := h
  cases rx
  cases ry
  show wpAny (model X.prog X.w) X.A (do return .bool (← isSame (.bool a) (.bool b))) (EP X pins σ Q) X.xe s
  refine wpAny_bind ?_
  unfold isSame
  cases a <;> cases b <;> exact wpAny_pure (wpAny_pure ⟨.bl (decide _), H, I, by rfl, q⟩)
section
variable {ks : List Str} {g : List Value → List Value → List Value} {gV : List V → List V → List V} {o : Expr} {m : Str} {pos apos : Pos} {kws : List Keyword} {ta : TE} {tk : TA}
/-- o.m(k = v, ..), nothing by place -/
def tMethK0 (C : Addr) (m : Str) (sp : Sp) (gV : List V → List V → List V) (E : XK) (ta : TE) (tk : TA) : TE := fun σ H Q => ta σ H fun x H1 => ∃ a dx fs, x = .ref a ∧ H1 a = some (.ins C dx fs) ∧ fs.lookup m = none ∧ tk σ H1 fun zs H2 => sp (gV [x] zs) H2 Q E
theorem pe_methK0 {pl : Sem Bool} (he : PE X o ta) (c : Cls X.K C) (hm : Meth X.K C m f) (F : FnOk X.prog X.w X.K X.mg X.base CX k f fd ps sp) (hr : Room k X.A) (hb : KBinds X.K fd ps ks g gV) (hx : Passes CX X E) (hkw : PK X kws tk)
    (hall : (backToKw pos (keywordEach kws X.env)).all (·.1.isSome) = true := by rfl) (hks : (backToKw pos (keywordEach kws X.env)).filterMap (·.1) = ks := by rfl)
    (hpl : ((backTo pos (starEach [] X.env)).any (·.1) || (backToKw pos (keywordEach kws X.env)).any (·.1.isNone)) = false := by rfl)
    (ht : eval (.Call (.Attribute o m apos) [] kws pos) X.env = (do
      let ov ← eval o X.env
      standAt apos.atName
      let (f, first) ← holding [ov] (getMethod ov m pl)
      callWith pos f first (backTo pos (starEach [] X.env)) (backToKw pos (keywordEach kws X.env))) := by rfl) :
    PE X (.Call (.Attribute o m apos) [] kws pos) (tMethK0 C m sp gV E ta tk) := by
  refine ⟨fun pins s σ H Q I h => ?_⟩
  refine PySem.W.methodCall_KW (pl := pl) (thn (he.run pins s σ H _ I h) fun u s1 ⟨x, H1, I1, rx, a, dx, fs, ex, ea, l, q⟩ => ?_) ht
  subst ex
  obtain rfl : u = Value.ref a := rx
  refine getmeth_ok I1 ea c hm l ?_
  refine PySem.W.callWith_KW0 (first := [.ref a]) (h₀ := X.base) I.ok.mod.kin hm.kp hall (thn (hkw.run pos pins s1 σ H1 _ I1 q) fun ws s2 ⟨zs, H2, I2, rz, q2⟩ => ⟨I2.kIn, ?_⟩) hpl
  rw [hks]
  exact run_fnk (us := [.ref a]) (vs := [.ref a]) F hr hb hx I2 (.cons rfl .nil) rz q2
end
/-! ### a built-in value == an instance: the instance's own == answers -/
theorem eq_right {prog : Program} {w : World} {A : Around} {Ex : Value → Shared → Prop} {s : Shared} {K : PySem.W.Frag} {a : Value} {b : Addr} {ob : Obj} {odb : Option Obj} {Ta ida : String} {Q : Value → Shared → Prop} (hu : A.units < cLine) (X : K.In s.heap)
    (he : PySem.W.findIn K (.ref C) "__eq__" = some (some (.ref f))) (hf : PySem.W.isFn K (.ref f) = true) (ha : s.TypeIs a Ta) (J : PySem.W.InstAt s.heap b ob C odb) (hsub : PySem.W.subIn K (.ref C) (.type Ta) = some false)
    (h1 : Slot Ta (cmpInfo .Eq).2.1 ida) (hc1 : ∀ Q' : Value → Shared → Prop, Q' .notImplemented s → wpAny (model prog w) A (call (.builtin ida) [a, .ref b]) Q' Ex s)
    (h : wpAny (model prog w) A (call (.ref f) [.ref b, a]) (fun v s' => ∃ r, v = .bool r ∧ Q (.bool r) s') Ex s) : wpAny (model prog w) A (richCompare .Eq a (.ref b)) Q Ex s := by
  have hne : (Value.type Ta != Value.ref C) = true := by
    rw [bne_iff_ne]
    exact fun z => nomatch z
  rcases hi : cmpInfo CmpOp.Eq with ⟨sym, n1, n2⟩
  have e1 : n1 = "__eq__" := by cases hi; rfl
  have e2 : n2 = "__eq__" := by cases hi; rfl
  rw [hi] at h1
  have one : wpAny (model prog w) A (tryCompare (.ref b) n2 a) (fun r s' => ∃ t, r = some (.bool t) ∧ Q (.bool t) s') Ex s := by
    rw [e2]
    unfold tryCompare
    refine wpAny_bind (PySem.W.ifBound_K X J he hf (wpAny_mono h (fun v s' hv => ?_) fun _ _ e => e))
    obtain ⟨r, rfl, q⟩ := hv
    exact wpAny_pure ⟨r, rfl, q⟩
  simp only [richCompare, hi, ha.oneThing_none]
  try with_reducible refine wpAny_holding ?_
  refine wpAny_bind (wpAny_cRoomFor hu ?_)
  refine wpAny_bind (wpAny_typeOf ha (wpAny_bind (J.type.here ?_)))
  simp only [hne, if_true]
  refine wpAny_bind ((PySem.W.looks_subIn X hsub).here ?_)
  simp only [Bool.false_eq_true, if_false, Bool.not_false, if_true]
  refine wpAny_bind (m := tryCompare a _ (.ref b)) (wpAny_tryCompare_declines ha h1 (hc1 _ ⟨rfl, ?_⟩))
  refine wpAny_bind (m := tryCompare (.ref b) _ a) (wpAny_mono one (fun r s' hr => ?_) fun _ _ e => e)
  obtain ⟨t, rfl, q⟩ := hr
  exact wpAny_pure q
theorem dec_int_eq (a : Int) (t : Tok) (l C dx : Addr) : Meets (Builtin.«int.__eq__» ⟨[.int a t, .ref l], []⟩) (fun _ R s => s.heap.get? l = some (PySem.W.instObj C dx) ∧ R (.ok (.ret Value.notImplemented)) s) := .of_wp fun prog w A R s h => by obtain ⟨hp, g, d, tk, os⟩ := s; obtain ⟨hl, h⟩ := h; wp_walk; exact ⟨_, rfl, h⟩
theorem dec_str_eq (a : Str) (t : Tok) (l C dx : Addr) : Meets (Builtin.«str.__eq__» ⟨[.str a t, .ref l], []⟩) (fun _ R s => s.heap.get? l = some (PySem.W.instObj C dx) ∧ R (.ok (.ret Value.notImplemented)) s) := .of_wp fun prog w A R s h => by obtain ⟨hp, g, d, tk, os⟩ := s; obtain ⟨hl, h⟩ := h; wp_walk; exact ⟨_, rfl, h⟩
theorem dec_none_eq (l : Addr) : Gives (Builtin.«NoneType.__eq__» ⟨[.none, .ref l], []⟩) (.val (Value.notImplemented)) := .of_wp fun M A E s Q h => by obtain ⟨hp, g, d, tk, os⟩ := s; wp_walk; exact ⟨_, rfl, h⟩
section
variable {prog : Program} {w : World} {A : Around} {Ex : Value → Shared → Prop} {s : Shared}
theorem dec_list_eq {l b : Addr} {Q : Value → Shared → Prop} (hl : s.TypeIs (.ref l) "list") (hb : PySem.W.Looks (model prog w) s.heap (isInstance (.ref b) (.type "list")) false) (q : Q .notImplemented s) : wpAny (model prog w) A (call (.builtin "list.__eq__") [.ref l, .ref b]) Q Ex s := by
  refine GQ.call_here F.slot_list_eq hl F.entry_list_eq (F.args_list_eq_2 _ _) ?_
  obtain ⟨hp, g, d, tk, os⟩ := s
  wp_walk using hb.at
  exact q
theorem dec_tuple_eq {l b : Addr} {Q : Value → Shared → Prop} (hl : s.TypeIs (.ref l) "tuple") (hb : PySem.W.Looks (model prog w) s.heap (isInstance (.ref b) (.type "tuple")) false) (q : Q .notImplemented s) : wpAny (model prog w) A (call (.builtin "tuple.__eq__") [.ref l, .ref b]) Q Ex s := by
  refine GQ.call_here F.slot_tuple_eq hl F.entry_tuple_eq (F.args_tuple_eq_2 _ _) ?_
  obtain ⟨hp, g, d, tk, os⟩ := s
  wp_walk using hb.at
  exact q
end
/-! ### an instance in a list of other things, by its own == -/
section
open PySem.SeqAt MeetsSeq MeetsSeq2 MeetsSeq3 SeqRoads2
variable {prog : Program} {w : World} {A : Around} {R : Result → Shared → Prop}
theorem contains_loopG (l : Addr) (x : Value) (N : Nat) (I : Shared → Prop)
    (hl : ∀ s, I s → ∃ (items : Array Value) (n : Nat), s.heap.get? l = some { cls := .type "list", data := .seq items n } ∧ items.size = N ∧ ∀ i (h : i < items.size), wpAny (model prog w) A.in1 (eqBool items[i] x) (fun r s' => r = false ∧ I s') (fun e s' => R (.error e) s') s)
    (fin : ∀ s, I s → R (.ok (.ret (.bool false))) s) (k : Nat) :
    ∀ i : Nat, N - i = k → i ≤ N → ∀ s, I s → wpAny (model prog w) A.in1 (Builtin.«list.__contains__.loop» ⟨[.ref l, x, rawInt i], []⟩) (GQ.FinOf prog w A R) (fun e s' => R (.error e) s') s := by
  induction k with
  | zero =>
    intro i hk hi s h
    obtain ⟨items, n, hl1, hs1, _⟩ := hl _ h
    have hR : R (.ok (.ret (.bool false))) s := fin s h
    obtain ⟨hp, g, d, tk, os⟩ := s
    wp_walk using AutoSeq1.wpAny_loadPart' hl1
    have hi1 : items[((i : Nat) : Int).toNat]? = none := by simp; omega
    rw [hi1]
    wp_walk
    exact hR
  | succ k ih =>
    intro i hk hi s h
    obtain ⟨items, n, hl1, hs1, turn⟩ := hl _ h
    have hlt : i < items.size := by omega
    have ht := turn i hlt
    obtain ⟨hp, g, d, tk, os⟩ := s
    wp_walk using AutoSeq1.wpAny_loadPart' hl1
    have hi1 : items[((i : Nat) : Int).toNat]? = some items[i] := by simp [hlt]
    have hc : ((i : Int) + 1) = ((i + 1 : Nat) : Int) := by omega
    rw [hi1]
    refine wpAny_bind (wpAny_mono ht (fun r s2 h2 => ?_) fun _ _ x => x)
    obtain ⟨hr, h2⟩ := h2
    subst hr
    have hrec := ih (i + 1) (by omega) (by omega) s2 h2
    obtain ⟨hp2, g2, d2, tk2, os2⟩ := s2
    wp_walk
    rw [hc]
    exact ⟨plainId_quiet plain_contains_loop _, codeAny_builtin entry_contains_loop (by
      rw [Around.under_plainId plain_contains_loop _]
      exact hrec)⟩
theorem list_containsG (l : Addr) (x : Value) (N : Nat) (I : Shared → Prop)
    (hl : ∀ s, I s → ∃ (items : Array Value) (n : Nat), s.heap.get? l = some { cls := .type "list", data := .seq items n } ∧ items.size = N ∧ ∀ i (h : i < items.size), wpAny (model prog w) A.in1 (eqBool items[i] x) (fun r s' => r = false ∧ I s') (fun e s' => R (.error e) s') s)
    (fin : ∀ s, I s → R (.ok (.ret (.bool false))) s) {s : Shared} (h : I s) : wpAny (model prog w) A.in1 (Builtin.«list.__contains__» ⟨[.ref l, x], []⟩) (GQ.FinOf prog w A R) (fun e s' => R (.error e) s') s := by
  have hrec := contains_loopG (A := A) (R := R) l x N I hl fin _ 0 rfl (Nat.zero_le _) s h
  obtain ⟨items, n, hl1, _, _⟩ := hl _ h
  obtain ⟨hp, g, d, tk, os⟩ := s
  wp_walk using AutoSeq1.wpAny_loadPart' hl1
  exact ⟨plainId_quiet plain_contains_loop _, codeAny_builtin entry_contains_loop (by
    rw [Around.under_plainId plain_contains_loop _]
    exact hrec)⟩
end
theorem eqBool_any {prog : Program} {w : World} {A : Around} {Ex : Value → Shared → Prop} {s : Shared} {a : Value} {b : Addr} {Q : Bool → Shared → Prop} (hne : a ≠ .ref b) (h : wpAny (model prog w) A (richCompare .Eq a (.ref b)) (fun v s' => ∃ r, v = .bool r ∧ Q r s') Ex s) : wpAny (model prog w) A (eqBool a (.ref b)) Q Ex s := by
  unfold eqBool
  refine wpAny_holding ?_
  refine wpAny_ite_split (fun hab => absurd (eq_of_beq hab) hne) (fun _ => ?_)
  cases a <;> exact wpAny_bind (wpAny_mono h (fun v s' hv => by
    obtain ⟨r, rfl, q⟩ := hv
    exact wpAny_truthy_bool q) fun _ _ x => x)
/-- another thing than an instance -/
def Oth (K : PySem.W.Frag) (H : Hp) (y : V) : Prop := (∃ i, y = .int i) ∨ (∃ z, y = .str z) ∨ y = .non ∨ (∃ p xs, y = .ref p ∧ H p = some (.tup xs)) ∨ (∃ p xs, y = .ref p ∧ H p = some (.lst xs))
structure OthC (K : PySem.W.Frag) (C f : Addr) : Prop where
  eq : PySem.W.findIn K (.ref C) "__eq__" = some (some (.ref f))
  fn : PySem.W.isFn K (.ref f) = true
  i : PySem.W.subIn K (.ref C) (.type "int") = some false
  s : PySem.W.subIn K (.ref C) (.type "str") = some false
  n : PySem.W.subIn K (.ref C) (.type "NoneType") = some false
  t : PySem.W.subIn K (.ref C) (.type "tuple") = some false
  l : PySem.W.subIn K (.ref C) (.type "list") = some false
def rInO (K : PySem.W.Frag) (C : Addr) (sp : Sp) (E : XK) : R2 := fun x y H Q => ∃ a dx fs l ys, x = .ref a ∧ y = .ref l ∧ H a = some (.ins C dx fs) ∧ H l = some (.lst ys) ∧ (∀ z ∈ ys, Oth K H z ∧ sp [.ref a, z] H (fun v H' => v = .bl false ∧ H' = H) E) ∧ Q (.bl false) H
theorem in_own (O : OthC X.K C f) (Fk : FnOk X.prog X.w X.K X.mg X.base CX k f fd ps sp) (hr : Room (k + 1) X.A) (hb : Binds X.K fd ps []) (hx : Passes CX X E) : OpR X (compareOp .In) (rInO X.K C sp E) := by
  intro pins s σ H x y v u Q I rx ry h
  obtain ⟨a, dx, fs, l, ys, rfl, rfl, ea, el, hz, q⟩ := h
  obtain rfl : v = Value.ref a := rx
  obtain rfl : u = Value.ref l := ry
  obtain ⟨z0, its0, n0, r0, e0⟩ := I.hok l _ el
  show wpAny (model X.prog X.w) X.A (do return .bool (← contains (.ref l) (.ref a))) (EP X pins σ Q) X.xe s
  have hT : s.TypeIs (.ref l) "list" := ⟨_, e0, rfl⟩
  refine wpAny_bind (wpAny_contains_slot hT F.slot_list_contains (wpAny_mono (GQ.call_here (Q := fun v s' => v = .bool false ∧ Inv X pins σ H s') F.slot_list_contains hT F.entry_list_contains (F.args_list_contains_2 _ _)
    (list_containsG l (.ref a) ys.length (fun s' => Inv X pins σ H s') (fun s' I' => ?_) (fun s' I' => ⟨rfl, I'⟩) I)) (fun v s' hv => ?_) fun _ _ e => e))
  · obtain ⟨z1, its, n, r, e⟩ := I'.hok l _ el
    refine ⟨its.toArray, n, e, by rw [List.size_toArray]; exact r.length.symm, fun i hi => ?_⟩
    have k1 : i < ys.length := by rw [r.length]; simpa using hi
    obtain ⟨u, hu, ru⟩ := r.get (List.getElem?_eq_getElem k1)
    have g1 : its[i]? = some its.toArray[i] := by
      have h1' : i < its.length := by simpa using hi
      rw [List.getElem?_eq_getElem h1'] <;> simp
    rw [g1] at hu
    rw [Option.some.inj hu]
    obtain ⟨ho, hsp⟩ := hz _ (List.getElem_mem k1)
    obtain ⟨mA, J, _⟩ := ins_get I'.hok ea
    obtain ⟨od, J, _⟩ := J.look
    have own : wpAny (model X.prog X.w) X.A.in1 (call (.ref f) [.ref a, u]) (fun v s' => ∃ r, v = .bool r ∧ ∃ t, Value.bool r = .bool t ∧ (t = false ∧ Inv X pins σ H s')) X.xe s' := by
      refine wpAny_mono (run_own1 (vs := [V.ref a, ys[i]]) Fk hr hb hx I' (.cons rfl (.cons ru .nil)) hsp) (fun v s2 hv => ?_) fun _ _ e => e
      obtain ⟨x, H2, I2, rv, ex, eH⟩ := hv
      subst ex
      subst eH
      obtain rfl : v = Value.bool false := rv
      exact ⟨false, rfl, false, rfl, rfl, I2⟩
    have hu1 : X.A.in1.units < cLine := hr.in1.units0
    rcases ho with ⟨i', ei⟩ | ⟨z', ez⟩ | en | ⟨p, xs, ep, hp⟩ | ⟨p, xs, ep, hp⟩
    · rw [ei] at ru
      obtain ⟨t, rfl⟩ := ru
      exact eqBool_any (fun z => nomatch z) (eq_right hu1 I'.kIn O.eq O.fn (typeIs_int s' i' t) J O.i F.slot_int_eq (fun Q' q' => call_meets F.slot_int_eq (typeIs_int s' i' t) F.entry_int_eq (F.args_int_eq_2 _ _) (dec_int_eq i' t a C dx) ⟨J.at_, q'⟩) own)
    · rw [ez] at ru
      obtain ⟨t, rfl⟩ := ru
      exact eqBool_any (fun z => nomatch z) (eq_right hu1 I'.kIn O.eq O.fn (typeIs_str s' z' t) J O.s F.slot_str_eq (fun Q' q' => call_meets F.slot_str_eq (typeIs_str s' z' t) F.entry_str_eq (F.args_str_eq_2 _ _) (dec_str_eq z' t a C dx) ⟨J.at_, q'⟩) own)
    · rw [en] at ru
      obtain rfl : u = Value.none := ru
      exact eqBool_any (fun z => nomatch z) (eq_right hu1 I'.kIn O.eq O.fn (typeIs_none s') J O.n F.slot_NoneType_eq (fun Q' q' => call_gives F.slot_NoneType_eq (typeIs_none s') F.entry_NoneType_eq (F.args_NoneType_eq_2 _ _) (dec_none_eq a) q') own)
    · rw [ep] at ru
      obtain rfl : u = Value.ref p := ru
      obtain ⟨its2, r2, pt, _⟩ := I'.tuple (SqT.of hp)
      obtain ⟨ot, et, ct, _⟩ := id pt
      have hTp : s'.TypeIs (.ref p) "tuple" := ⟨ot, et, ct⟩
      have below : PySem.W.Looks (model X.prog X.w) s'.heap (isInstance (.ref a) (.type "tuple")) false := J.type.andThen (PySem.W.looks_subIn I'.kIn O.t)
      refine eqBool_any (fun z => ?_) (eq_right hu1 I'.kIn O.eq O.fn hTp J O.t F.slot_tuple_eq (fun Q' q' => dec_tuple_eq hTp below q') own)
      injection z with z
      rw [z, ea] at hp
      cases hp
    · rw [ep] at ru
      obtain rfl : u = Value.ref p := ru
      obtain ⟨z2, its2, n2, r2, e2⟩ := I'.hok p _ hp
      have hTp : s'.TypeIs (.ref p) "list" := ⟨_, e2, rfl⟩
      have below : PySem.W.Looks (model X.prog X.w) s'.heap (isInstance (.ref a) (.type "list")) false := J.type.andThen (PySem.W.looks_subIn I'.kIn O.l)
      refine eqBool_any (fun z => ?_) (eq_right hu1 I'.kIn O.eq O.fn hTp J O.l F.slot_list_eq (fun Q' q' => dec_list_eq hTp below q') own)
      injection z with z
      rw [z, ea] at hp
      cases hp
  · obtain ⟨rfl, I'⟩ := hv
    exact wpAny_truthy_bool (wpAny_pure ⟨.bl false, H, I', rfl, q⟩)
/-- != of two instances -/
theorem ne_own (N : NoNe X.K C f) (F : FnOk X.prog X.w X.K X.mg X.base CX k f fd ps sp) (hr : Room (k + 1) X.A) (hb : Binds X.K fd ps []) (hx : Passes CX X E) :
    OpR X (compareOp .NotEq) (fun x y H Q => rOO C sp E x y H (fun v H' => ∃ b, v = .bl b ∧ Q (.bl (!b)) H')) := by
  intro pins s σ H x y v u Q I rx ry h
  obtain ⟨a, dx, fs, b, dy, gs, rfl, rfl, ea, eb, q⟩ := h
  obtain rfl : v = Value.ref a := rx
  obtain rfl : u = Value.ref b := ry
  obtain ⟨mA, J, _⟩ := ins_get I.hok ea
  obtain ⟨od, J, _⟩ := J.look
  obtain ⟨mB, J', _⟩ := ins_get I.hok eb
  obtain ⟨od', J', _⟩ := J'.look
  show wpAny (model X.prog X.w) X.A (richCompare .NotEq (.ref a) (.ref b)) (EP X pins σ Q) X.xe s
  refine ne_K (by have := hr.un; omega) I.kIn N J J' (wpAny_mono (run_own1 (vs := [V.ref a, V.ref b]) F hr hb hx I (.cons rfl (.cons rfl .nil)) q) (fun v s2 hv => ?_) fun _ _ e => e)
  obtain ⟨x, H2, I2, rv, t, ex, q2⟩ := hv
  subst ex
  obtain rfl : v = Value.bool t := rv
  exact ⟨t, rfl, .bl (!t), H2, I2, rfl, q2⟩
section
variable {E : L2.St → XK} {o e : Expr} {es : List Expr} {m : Str} {pos apos : Pos} {ta : TE} {t : TA}
/-- o.m(e, ..), what is let out wished for at the caller's slots -/
def tMethE (C : Addr) (m : Str) (sp : Sp) (E : L2.St → XK) (ta : TE) (t : TA) : TE := fun σ H Q => ta σ H fun x H1 => ∃ a dx fs, x = .ref a ∧ H1 a = some (.ins C dx fs) ∧ fs.lookup m = none ∧ t σ H1 fun vs H2 => sp (x :: vs) H2 Q (E σ)
theorem pe_methE {pl : Sem Bool} (he : PE X o ta) (c : Cls X.K C) (hm : Meth X.K C m f) (F : FnOk X.prog X.w X.K X.mg X.base CX k f fd ps sp) (hr : Room k X.A) (hb : Binds X.K fd ps []) (hx : ∀ σ, PassesAt CX X σ (E σ)) (ha : PA X (e :: es) t)
    (hst : starEach (e :: es) X.env = (false, eval e X.env) :: starEach es X.env := by rfl) (hpl : (backTo pos (starEach es X.env)).any (·.1) = false := by rfl)
    (ht : eval (.Call (.Attribute o m apos) (e :: es) [] pos) X.env = (do
      let ov ← eval o X.env
      standAt apos.atName
      let (f, first) ← holding [ov] (getMethod ov m pl)
      callWith pos f first (backTo pos (starEach (e :: es) X.env)) (backToKw pos (keywordEach [] X.env))) := by rfl) :
    PE X (.Call (.Attribute o m apos) (e :: es) [] pos) (tMethE C m sp E ta t) := by
  refine ⟨fun pins s σ H Q I h => ?_⟩
  refine PySem.W.methodCall_KW (pl := pl) (thn (he.run pins s σ H _ I h) fun u s1 ⟨x, H1, I1, rx, a, dx, fs, ex, ea, l, q⟩ => ?_) ht
  subst ex
  obtain rfl : u = Value.ref a := rx
  refine getmeth_ok I1 ea c hm l ?_
  refine PySem.W.callWith_K (first := [.ref a]) (h₀ := X.base) I.ok.mod.kin hm.kp (thn (ha.run pos pins s1 σ H1 _ I1 q) fun us s2 ⟨vs, H2, I2, r, q2⟩ => ⟨I2.kIn, ?_⟩) hst hpl
  exact run_fnS (us := .ref a :: us) (vs := .ref a :: vs) F hr hb (hx σ) I2 (.cons rfl r) q2
end
/-- the receiver by place, the other by its name -/
def kSelf {α : Type} : List α → List α → List α
  | [u], ws => u :: ws
  | _, _ => []
theorem kbinds_self {K : PySem.W.Frag} {fd : FuncData} {p1 p2 k : Str} (h : ∀ (s : Shared) (u w : Value), BindsTo s fd ⟨[u], [(k, w)]⟩ [(p1, u), (p2, w)]) : KBinds K fd [p1, p2] [k] kSelf kSelf where
  to := fun s us ws _ hl => match us, ws, hl with
    | [u], [w], _ => h s u w
    | [], _, hl => nomatch hl
    | [_], [], hl => nomatch hl
    | [_], _ :: _ :: _, hl => by simp [kSelf] at hl
    | _ :: _ :: _, _, hl => nomatch hl
  rel := fun r rz => by
    cases r with
    | nil => exact .nil
    | cons a r =>
      cases r with
      | nil => exact .cons a rz
      | cons => exact .nil
end
end My

/-! My own rule: the own == of two instances within an except suite. -/
namespace My
open PySem PySem.Spec PyProof.Rows L2
/-- a def that may be called while an error is handled: the error stands at p, out of reach -/
structure FnP (P : Program) (w : World) (K : PySem.W.Frag) (mg : Str → Option Value) (base : Heap) (k : Nat) (f : Addr) (fd : FuncData) (ps : List Str) (sp : Sp) : Prop where
  len : ∀ vs H Q E, sp vs H Q E → vs.length = ps.length
  run : ∀ (A : Around) (outer : List Env) (s : Shared) (H : Hp) (args : Args) (us : List Value) (vs : List V) (Q : VK) (E : XK) (p : Addr × Obj), L2H.RoomH k A → L2H.PinOk outer H s p → Env0 P w K mg base A outer s H → BindsTo s fd args (ps.zip us) → Vals vs us → sp vs H Q E →
    codeAny (model P w) A (.call (.ref f) args) (CR CX0 outer P w H s Q E) s
theorem fnP_of {P : Program} {w : World} {K : PySem.W.Frag} {mg : Str → Option Value} {base : Heap} {x qual : Str} {st : Stmt} {f : Addr} {fd : FuncData} {N ps : List Str} {k : Nat} {sp : Sp} (F : Fun K x qual st f fd) (S : FnScope N ps (defScope st)) (len : ∀ vs H Q E, sp vs H Q E → vs.length = ps.length)
    (hbody : ∀ (cdv : Value) (A : Around) (outer : List Env) (s : Shared) (H : Hp) (vs : List V) (Q : VK) (E : XK) (p : Addr × Obj), sp vs H Q E →
      ∃ t, PSs (L2H.cxH CX0 P w K mg base N qual (defScope st) f cdv A outer s H E p) (defBody st) t ∧ t { nx := fun _ H' => Q .non H', rt := Q } (L2.start N vs) H) : FnP P w K mg base (k + 1) f fd ps sp := by
  obtain ⟨oc, od, kV, doc, pm, an, cdv, ct, osl, rfl, lk, hcd⟩ := F.ex
  refine ⟨len, fun A outer s H args us vs Q E p hr hpin e0 hb r hsp => ?_⟩
  have up : ∀ b o, base.get? b = some o → s.heap.get? b = some o := fun b o e => (e0.bs b o e).1
  refine codeAny_call_function hr.depth (e0.mod.kin.keeps up _ _ lk) rfl S.co S.gen rfl (PySem.W.codeRec_of (e0.mod.kin.keeps up) hcd) (hb _ _ _ _ ?_)
  refine wpAny_newFunctionEnv_cells S.kind (fun q hq => (S.par q.1 (List.of_mem_zip hq).1).elim .inl fun c => .inr ⟨c, PySem.W.cellsFrom_some _ _ _ (.inl c)⟩) fun env he s1 y => ?_
  subst he
  refine ⟨(e0.mod.nolimit.keeps up).keeps y.toInCall.keep, codeAny_func ?_⟩
  obtain ⟨t, ht, hq⟩ := hbody cdv A outer s H vs Q E p hsp
  refine wpAny_mono (ht.run [] s1 (L2.start N vs) H _ (L2H.inv_startH S hpin e0 (len _ _ _ _ hsp) r y) hq) (fun fl s' hs => ?_) fun e s' hs => hs
  cases fl with
  | ret u =>
    obtain ⟨v, σ', H', J, rv, q⟩ := hs
    exact ⟨v, H', J.os, J.bare, J.base, J.hok, rv, q⟩
  | next =>
    obtain ⟨σ', H', J, q⟩ := hs
    exact ⟨.non, H', J.os, J.bare, J.base, J.hok, rfl, q⟩
  | brk => exact hs.elim fun _ h => h.elim fun _ h => False.elim h.2
  | cont => exact hs.elim fun _ h => h.elim fun _ h => False.elim h.2
section
variable {X : Cx} {k : Nat} {C f : Addr} {fd : FuncData} {ps : List Str} {sp : Sp} {E : XK} {p : Addr × Obj}
theorem cmp_ownP (hs : PySem.W.findIn X.K (.ref C) "__eq__" = some (some (.ref f))) (hf : PySem.W.isFn X.K (.ref f) = true) (F : FnP X.prog X.w X.K X.mg X.base k f fd ps sp) (hr : L2H.RoomH k X.A) (hp : p ∈ X.pn) (hb : Binds X.K fd ps []) : OpR X (compareOp .Eq) (rOO C sp E) := by
  intro pins s σ H x y v u Q I rx ry h
  obtain ⟨a, dx, fs, b, dy, gs, rfl, rfl, ea, eb, q⟩ := h
  obtain rfl : v = Value.ref a := rx
  obtain rfl : u = Value.ref b := ry
  obtain ⟨mA, J, _⟩ := ins_get I.hok ea
  obtain ⟨od, J, _⟩ := J.look
  obtain ⟨mB, J', _⟩ := ins_get I.hok eb
  obtain ⟨od', J', _⟩ := J'.look
  obtain ⟨m, hF⟩ := I.fr
  have hl : ([Value.ref a, Value.ref b] ++ []).length = ps.length := by rw [← F.len _ _ _ _ q]; rfl
  have b2 := hb s [.ref a, .ref b] I.kIn hl
  have P1 := I.pin p (List.mem_append_left _ hp)
  have hpin : L2H.PinOk X.stack H s p := ⟨P1.1, P1.2.1, fun hm => (List.mem_cons.mp (I.stkSub p.1 hm)).elim P1.2.2.1 P1.2.2.2.1, P1.2.2.2.2⟩
  show wpAny (model X.prog X.w) X.A (richCompare .Eq (.ref a) (.ref b)) (EP X pins σ Q) X.xe s
  refine PySem.W.cmp_K (op := .Eq) (tb := .ref C) (by have := hr.un; omega) hF I.ok.mod.kin J J'.type (by simp [PySem.W.notFirst]) hs hf ?_
  refine wpAny_call (codeAny_mono (F.run X.A X.stack s H ⟨[.ref a, .ref b], []⟩ [.ref a, .ref b] [.ref a, .ref b] Q E p hr hpin I.env0 b2 (.cons rfl (.cons rfl .nil)) q) fun r s' hq => ?_)
  cases r with
  | error e => exact hq.elim
  | ok fl =>
    cases fl with
    | ret w => exact back_of (I.after hq)
    | next => exact False.elim hq
    | brk => exact False.elim hq
    | cont => exact False.elim hq
end
end My

/-! My own rules: a text times a number; a class method's call that raises, at the caller's slots. -/
namespace My
open PySem PySem.Spec PyProof.Rows L2
section
variable {X : Cx}
/-- z * k, only the length is told -/
def rRepS : R2 := fun x y H Q => ∃ (z : Str) (k : Int), x = .str z ∧ y = .int k ∧ 2 ≤ k ∧ k < 2 ^ 30 ∧ 1 ≤ z.length ∧ z.length * k.toNat ≤ sizeLine ∧ ∀ u : Str, u.length = k.toNat * z.length → (∀ c ∈ u.cps.toList, c ∈ z.cps.toList) → Q (.str u) H
theorem rep_size (x : Array Nat) : ∀ (n : Nat) (a : Array Nat), ((List.replicate n x).foldl (· ++ ·) a).size = a.size + n * x.size
  | 0, a => by simp
  | n + 1, a => by
    show ((List.replicate n x).foldl (· ++ ·) (a ++ x)).size = _
    rw [rep_size x n (a ++ x), Array.size_append, Nat.add_mul]
    omega
theorem rep_mem (x : Array Nat) : ∀ (n : Nat) (a : Array Nat) (c : Nat), c ∈ (List.replicate n x).foldl (· ++ ·) a → c ∈ a ∨ c ∈ x
  | 0, a, c, h => .inl h
  | n + 1, a, c, h => by
    rcases rep_mem x n (a ++ x) c h with h | h
    · exact Array.mem_append.mp h
    · exact .inr h
theorem op_repS : OpR X (binaryOp .Mult) rRepS := by
  intro pins s σ H x y v u Q I rx ry h
  obtain ⟨z, k, rfl, rfl, h2, h30, h1, hz, q⟩ := h
  obtain ⟨t, rfl⟩ := rx
  obtain ⟨t', rfl⟩ := ry
  have hl : Builtin.Str.tooLong (z.length * k.toNat) = false := decide_eq_false (by omega)
  have hs : sizeLine = 2 ^ 24 := rfl
  have hb : ¬ ((z.length : Int) > (2 ^ 63 - 1) / k) := by
    have e1 : z.length ≤ z.length * k.toNat := Nat.le_mul_of_pos_right _ (by omega)
    have e2 : (2 ^ 24 : Int) ≤ (2 ^ 63 - 1) / k := by
      rw [Int.le_ediv_iff_mul_le (by omega)]
      omega
    omega
  refine P.mul_str (by rw [decide_eq_false (by omega), decide_eq_false (by omega)]; rfl) (fun _ _ => hb) (fun _ _ => hl) ?_
  rw [if_neg (by omega), if_neg (by
    have a1 : (k == 1) = false := by simp; omega
    have a2 : (z.length == 0) = false := by simp; omega
    rw [a1, a2]
    exact Bool.false_ne_true)]
  have e : (⟨(List.replicate k.toNat z.cps).foldl (· ++ ·) #[]⟩ : Str).length = k.toNat * z.length := by
    show ((List.replicate k.toNat z.cps).foldl (· ++ ·) #[]).size = _
    rw [rep_size]
    show 0 + _ = _
    rw [Nat.zero_add]
    rfl
  refine ⟨?_, .str _, H, I.tok _, ⟨_, rfl⟩, q _ e fun c hc => ?_⟩
  rotate_left
  · rcases rep_mem z.cps k.toNat #[] c (Array.mem_toList_iff.mp hc) with h | h
    · exact absurd h (by simp)
    · exact Array.mem_toList_iff.mpr h
  show (⟨(List.replicate k.toNat z.cps).foldl (· ++ ·) #[]⟩ : Str).length ≤ sizeLine
  rw [e, Nat.mul_comm]
  exact hz
end
section
variable {X : Cx} {CX : CXT} {k : Nat} {C p g : Addr} {mc : Value} {fd : FuncData} {ps : List Str} {sp : Sp} {E : L2.St → XK} {o e : Expr} {es : List Expr} {m : Str} {pos apos : Pos} {ta : TE} {t : TA} {pl : Sem Bool}
def tCMethE (C : Addr) (sp : Sp) (E : L2.St → XK) (ta : TE) (t : TA) : TE := fun σ H Q => ta σ H fun x H1 => x = .ref C ∧ t σ H1 fun vs H2 => sp (.ref C :: vs) H2 Q (E σ)
theorem pe_cmethE (he : PE X o ta) (r : ClX.CRead X.K C mc) (c : ClX.CMet X.K C mc m p g) (F : FnOk X.prog X.w X.K X.mg X.base CX k g fd ps sp) (hr : Room k X.A) (hb : Binds X.K fd ps []) (hx : ∀ σ, PassesAt CX X σ (E σ)) (ha : PA X (e :: es) t)
    (hst : starEach (e :: es) X.env = (false, eval e X.env) :: starEach es X.env := by rfl) (hpl : (backTo pos (starEach es X.env)).any (·.1) = false := by rfl)
    (ht : eval (.Call (.Attribute o m apos) (e :: es) [] pos) X.env = (do
      let ov ← eval o X.env
      standAt apos.atName
      let (f, first) ← holding [ov] (getMethod ov m pl)
      callWith pos f first (backTo pos (starEach (e :: es) X.env)) (backToKw pos (keywordEach [] X.env))) := by rfl) :
    PE X (.Call (.Attribute o m apos) (e :: es) [] pos) (tCMethE C sp E ta t) := by
  refine ⟨fun pins s σ H Q I h => ?_⟩
  refine PySem.W.methodCall_KW (pl := pl) (thn (he.run pins s σ H _ I h) fun u s1 ⟨x, H1, I1, rx, ex, q⟩ => ?_) ht
  subst ex
  obtain rfl : u = Value.ref C := rx
  refine ClX.getmethcm_ok I1 r c fun s2 I2 => ?_
  refine ClX.callwith_cm I2 (ClX.base_none I1 (Nat.le_refl _)) c.fi (thn (ha.run pos _ s2 σ H1 _ I2 q) fun us s3 ⟨vs, H2, I3, rv, q2⟩ => ⟨⟨ClX.pin_at I3, I3.kIn⟩, ?_⟩) hst hpl
  suffices z : wpAny (model X.prog X.w) X.A (call (.ref s1.heap.objs.size) us) (EP X ((s1.heap.objs.size, PySem.W.methodObj (.ref g) (.ref C)) :: pins) σ Q) X.xe s3 from thn z fun _ _ y => ClX.unpinE y
  refine wpAny_call (PySem.W.method_call (ClX.pin_at I3) ?_)
  have r2 : Vals (V.ref C :: vs) (Value.ref C :: us) := .cons rfl rv
  have hl : (Value.ref C :: us).length = ps.length := by rw [← r2.length]; exact F.len _ _ _ _ q2
  have b := hb s3 (Value.ref C :: us) I3.kIn (by rw [List.append_nil]; exact hl)
  rw [List.append_nil] at b
  refine codeAny_mono (F.run X.A X.stack s3 H2 ⟨Value.ref C :: us, []⟩ (Value.ref C :: us) (V.ref C :: vs) Q (E σ) hr I3.env0 b r2 q2) fun r s' hq => ?_
  cases r with
  | error er => exact hx σ _ H2 s3 er s' I3 hq
  | ok fl =>
    cases fl with
    | ret u => exact I3.after hq
    | next => exact False.elim hq
    | brk => exact False.elim hq
    | cont => exact False.elim hq
end
theorem kit_vty {K : PySem.W.Frag} {C : Addr} {T : String} {b : Bool} (h : PySem.W.mroIn K C (.type T) = some b) (hm : PySem.W.kitMeta T = true) : PySem.W.kitOne K (.ref C) (.type T) = some b := by
  unfold PySem.W.kitOne
  rw [if_neg (by simp)]
  show (if PySem.W.kitMeta T = true then PySem.W.subIn K (.ref C) (.type T) else none) = some b
  rw [if_pos hm]
  exact h
end My

set_option maxHeartbeats 4000000
/-! My own rules: errors held as values: made, asked for their class, their attributes read. -/
namespace PySem
namespace HandSPX2
open PySem.W PySem.Calls PyProof.Rows PySem.HandSPX
section
variable {M : Model} {A : Around} {E : Value → Shared → Prop} {h : Heap} {g : Array GenState} {d : Drawn} {t : Nat} {os : OsState}
variable {nm q : Str} {C N : Addr} {bs bm bmB : List Value} {hdct : Bool} {sn : List Str} {sub : List Value} {ab : Bool} {col : Option Bool} {dd : Option Addr} {k0 k1 k2 k3 k5 : Option Value} {B newId initId : String}
theorem check_new_ownK (F : ExcBaseFacts B newId initId bmB) (hT : ∀ X : String, bm.contains (.type X) = bmB.contains (.type X)) {rest : List Value} {kws : List (Str × Value)} {Q : Unit → Shared → Prop}
    (hC : h.get? C = some (excClassObj nm q C N bs bm hdct sn sub ab col dd k0 k1 k2 k3 k5 newId)) (hq : Q () ⟨h, g, d, t, os⟩) : wpAny M A (checkBuiltinCall newId ⟨.ref C :: rest, kws⟩) Q E ⟨h, g, d, t, os⟩ := by
  have hcont : (Value.ref C :: bm).contains (.type B) = true := by rw [List.contains_cons, hT, F.hasB, Bool.or_true]
  have hstar := F.noStar
  simp only [checkBuiltinCall, F.newKind, F.newSplit, F.newRow]
  repeat (first | refine wpAny_loadPart_at hC ?_ | (refine wpAny_isSubtype_exc hC ?_; rw [hcont]) | refine wpAny_staticBase_exc hC ?_ | refine wpAny_madeBy_exc hC ?_ | simp only [bne_self_eq_false, Bool.false_eq_true, if_false] | wp_step)
  exact hq
end
section
variable {prog : Program} {w : World} {A : Around} {E : Value → Shared → Prop} {R : Result → Shared → Prop} {h : Heap} {g : Array GenState} {d : Drawn} {t : Nat} {os : OsState}
variable {nm q : Str} {C N : Addr} {bs bm bmB : List Value} {hdct : Bool} {sn : List Str} {sub : List Value} {ab : Bool} {col : Option Bool} {dd : Option Addr} {k0 k1 k2 k3 k5 : Option Value} {B newId initId : String}
theorem new_ownK (F : ExcBaseFacts B newId initId bmB) (hT : ∀ X : String, bm.contains (.type X) = bmB.contains (.type X)) {rest : List Value} {kws : List (Str × Value)}
    (hC : h.get? C = some (excClassObj nm q C N bs bm hdct sn sub ab col dd k0 k1 k2 k3 k5 newId))
    (hq : R (.ok (.ret (.ref (h.objs.size + 1)))) ⟨(h.push { cls := .type "tuple", data := .seq rest.toArray }).push
      { cls := .ref C, data := .fields #[.ref h.objs.size, .none, .none, .none, .bool false, .none] }, g, d, t, os⟩) (hrest : rest.length ≤ sizeLine) :
    codeAny (model prog w) A (.builtin newId ⟨.ref C :: rest, kws⟩) R ⟨h, g, d, t, os⟩ := by
  have hends := F.ends
  have hcB : (Value.ref C :: bm).contains (.type B) = true := by rw [List.contains_cons, hT, F.hasB, Bool.or_true]
  have hcA : (Value.ref C :: bm).contains (.type "AttributeError") = false := by rw [List.contains_cons, hT, F.noAttr]; rfl
  have hcN : (Value.ref C :: bm).contains (.type "NameError") = false := by rw [List.contains_cons, hT, F.noName]; rfl
  refine codeAny_builtinAt F.entry ?_
  unfold Builtin.«BaseException.__new__»
  refine wpAt_bind ?_
  show wpAt _ _ _ (stack >>= _) _ _ _
  refine wpAt_bind (wpAt_stack fun p below => wpAt_of_wpAny ?_)
  wp_walk
  refine wpAt_of_wpAny ?_
  rw [F.owner]
  repeat (first | with_reducible refine wpAny_madeHere_exc F.canon hC ?_ | with_reducible refine wpAny_loadPart_at hC ?_ | (with_reducible refine wpAny_isSubtype_exc hC ?_; first | rw [hcB] | rw [hcA] | rw [hcN]) | wp_step)
  show R _ _
  rw [Heap.size_push]
  exact hq
theorem type_call_ownK (F : ExcBaseFacts B newId initId bmB) (hT : ∀ X : String, bm.contains (.type X) = bmB.contains (.type X)) {rest : List Value} {kws : List (Str × Value)} {fI : Addr} {Q : Fin → Shared → Prop}
    (hC : h.get? C = some (excClassObj nm q C N bs bm hdct sn sub ab col dd k0 k1 k2 k3 k5 newId))
    (hi : W.Looks (model prog w) h (typeLookup (.ref C) "__init__") (some (.ref fI))) (hb : ∀ self, W.Looks (model prog w) h (bindSpecial (.ref fI) self) (.ref fI, [self])) (hrest : rest.length ≤ sizeLine)
    (hq : codeAny (model prog w) A (.call (.ref fI) ⟨.ref (h.objs.size + 1) :: rest, kws⟩)
      (fun r s' => match r with | .ok (.ret v) => v = .none ∧ Q (.done (.ret (.ref (h.objs.size + 1)))) s' | .ok _ => False | .error e => E e s')
      ⟨(h.push (W.kdv_tup rest)).push (excO C h.objs.size), g, d, t, os⟩) :
    wpAny (model prog w) A (Builtin.«type.__call__» ⟨.ref C :: rest, kws⟩) Q E ⟨h, g, d, t, os⟩ := by
  repeat (first | with_reducible refine wpAny_loadPart_at hC ?_ | with_reducible refine wpAny_madeBy_exc hC ?_ | wp_step)
  refine codeAny_call_builtin_code (Code.quiet_builtin _ F.quiet) (check_new_ownK F hT hC ?_)
  refine new_ownK F hT hC ?_ hrest
  show wpAny _ _ _ _ _ _
  have k : ∀ b o, h.get? b = some o → ((h.push (W.kdv_tup rest)).push (excO C h.objs.size)).get? b = some o := fun b o e => Heap.get?_push_of_some _ (Heap.get?_push_of_some _ e)
  have hC₁ := k _ _ hC
  have hget : ((h.push (W.kdv_tup rest)).push (excO C h.objs.size)).get? (h.objs.size + 1) = some (excO C h.objs.size) := by heap_get
  have hcC : (Value.ref C :: bm).contains (.ref C) = true := by simp
  have i1 := hi.keeps k
  have b1 := (hb (.ref (h.objs.size + 1))).keeps k
  unfold isInstance
  repeat (first | with_reducible refine wpAny_loadPart_at hget ?_ | (with_reducible refine wpAny_isSubtype_exc hC₁ ?_; rw [hcC]) | wp_step)
  show wpAny _ _ (typeLookup (.ref C) _) _ _ _
  refine i1.at ?_
  refine wpAny_holding (wpAny_bind (b1.at ?_))
  refine wpAny_bind (wpAny_call (codeAny_mono hq fun r s' z => ?_))
  rcases r with e | (v | _ | _ | _) <;> first | exact z | exact z.elim | skip
  obtain ⟨rfl, z⟩ := z
  first
    | exact wpAny_pure (wpAny_pure z)
    | (wp_walk; exact z)
theorem call_ownK (F : ExcBaseFacts B newId initId bmB) (hT : ∀ X : String, bm.contains (.type X) = bmB.contains (.type X)) {rest : List Value} {kws : List (Str × Value)} {fI : Addr}
    (hC : h.get? C = some (excClassObj nm q C N bs bm hdct sn sub ab col dd k0 k1 k2 k3 k5 newId))
    (hi : W.Looks (model prog w) h (typeLookup (.ref C) "__init__") (some (.ref fI))) (hb : ∀ self, W.Looks (model prog w) h (bindSpecial (.ref fI) self) (.ref fI, [self])) (hrest : rest.length ≤ sizeLine)
    (hq : codeAny (model prog w) (A.under (.builtin "type.__call__" ⟨.ref C :: rest, kws⟩)) (.call (.ref fI) ⟨.ref (h.objs.size + 1) :: rest, kws⟩) (W.InitBack (h.objs.size + 1) R)
      ⟨(h.push (W.kdv_tup rest)).push (excO C h.objs.size), g, d, t, os⟩) :
    codeAny (model prog w) A (.call (.ref C) ⟨rest, kws⟩) R ⟨h, g, d, t, os⟩ := by
  have f1 := tc_lookup
  have f2 := tc_bind (.ref C)
  have hTy : (⟨h, g, d, t, os⟩ : Shared).TypeIs (.ref C) "type" := ⟨_, hC, rfl⟩
  refine codeAny_of_tree ?_
  show wpAny _ _ (callAny (.ref C) _) _ _ _
  repeat (any_goals (first | assumption | with_reducible refine wpAny_loadPart_at hC ?_ | wp_step))
  refine ⟨rfl, ?_⟩
  refine codeAny_call_builtin_at (Code.quiet_builtin _ (by decide +kernel)) entry_typeCall (wpAny_check_type_call_sub hC (type_call_ownK F hT hC hi hb hrest ?_))
  refine codeAny_mono hq fun r s' z => ?_
  rcases r with e | (v | _ | _ | _) <;> exact z
end
end HandSPX2
end PySem
namespace My
open PySem PySem.Spec PyProof.Rows L2
/-- an error as a value: with its dict, or without one -/
def ErrV (H : Hp) (a D : Addr) : Prop := (∃ dx fs, H a = some (exo a D (some dx)) ∧ H dx = some (exd dx fs)) ∨ H a = some (ExO (.ref D) a)
theorem ErrV.on {H H' : Hp} {a D : Addr} (e : ErrV H a D) (s : Same H H') : ErrV H' a D := by
  rcases e with ⟨dx, fs, h1, h2⟩ | h
  · exact .inl ⟨dx, fs, s _ _ h1, s _ _ h2⟩
  · exact .inr (s _ _ h)
/-- an attribute of it -/
def ErrF (H : Hp) (a D : Addr) (n : Str) (v : V) : Prop := ∃ dx fs, H a = some (exo a D (some dx)) ∧ H dx = some (exd dx fs) ∧ fs.lookup n = some v
theorem ErrF.on {H H' : Hp} {a D : Addr} {n : Str} {v : V} (e : ErrF H a D n v) (s : Same H H') : ErrF H' a D n v := let ⟨dx, fs, h1, h2, h3⟩ := e; ⟨dx, fs, s _ _ h1, s _ _ h2, h3⟩
theorem ErrF.err {H : Hp} {a D : Addr} {n : Str} {v : V} (e : ErrF H a D n v) : ErrV H a D := let ⟨dx, fs, h1, h2, _⟩ := e; .inl ⟨dx, fs, h1, h2⟩
def rIsV (K : PySem.W.Frag) : List V → Hp → VK → Prop := fun xs H Q => ∃ (a D : Addr) (c : V) (cv : Value) (b : Bool), xs = [.ref a, c] ∧ ExcC K D ∧ ErrV H a D ∧ ClsV c cv ∧ PySem.W.kitOne K (.ref D) cv = some b ∧ Q (.bl b) H
theorem call_isV {X : Cx} : CallR X (.builtin "isinstance") (rIsV X.K) := by
  intro pins s σ H xs us Q I r h
  obtain ⟨a, D, c, cv, b, rfl, C, he, hcv, e, q⟩ := h
  obtain ⟨u, w', rfl, ru, rw'⟩ := vals2 r
  obtain rfl : u = Value.ref a := ru
  obtain rfl := hcv.eq rw'
  rcases he with ⟨dx, fs, h1, h2⟩ | h1
  · obtain ⟨t1, hget⟩ := exo_at I.hok h1
    obtain ⟨mA, hns, hrel⟩ := exd_at I.hok h2
    obtain ⟨od, ho, hl⟩ := lookIn_ns hns
    have J : PySem.W.InstAt s.heap a { cls := .ref D, dict := some dx, data := .fields #[.ref t1, .none, .none, .none, .bool false, .none] } D (some od) := ⟨hget, rfl, rfl, ho⟩
    exact PySem.W.kia_one (kit_err C) I.kIn J e (fun z => nomatch z) fun tk => ⟨.bl b, H, I.kept (t' := tk) fun _ _ z => z, rfl, q⟩
  · obtain ⟨⟨oe, vs, hget, hz, hv, _⟩, _, _⟩ := I.hok a _ h1
    have J : PySem.W.InstAt s.heap a oe D none := by
      obtain ⟨oc, od, oda, osl⟩ := oe
      obtain ⟨h1, h2⟩ := hz
      dsimp only at h1 h2 hv
      subst h1 h2 hv
      exact ⟨hget, rfl, rfl, trivial⟩
    exact PySem.W.kia_one (PySem.W.handS_kitx_exc C.hg C.hk C.hs C.hd C.ha C.hn C.ht C.hm) I.kIn J e (fun z => nomatch z) fun tk => ⟨.bl b, H, I.kept (t' := tk) fun _ _ z => z, rfl, q⟩
/-- o.f of an error held as a value -/
def tXv (D : Addr) (n : Str) (te : TE) : TE := fun σ H Q => te σ H fun x H1 => ∃ (a : Addr) (v : V), x = .ref a ∧ ErrF H1 a D n v ∧ Q v H1
theorem pe_xv {X : Cx} {D : Addr} {e : Expr} {te : TE} {pos : Pos} {n : Str} (T : XfC X.K D) (hno : PySem.W.findIn X.K (.ref D) n = some none) (he : PE X e te) (hb : attributeBase e n X.env (eval e X.env) = eval e X.env := by rfl) :
    PE X (.Attribute e n pos) (tXv D n te) := by
  refine ⟨fun pins s σ H Q I h => ?_⟩
  refine attr_of hb (thn (he.run pins s σ H _ I h) fun u s1 hh => ?_)
  obtain ⟨x, H1, I1, rx, a, v, ex, ⟨dd, fs, ea, ed, l⟩, q⟩ := hh
  subst ex
  obtain rfl : u = Value.ref a := rx
  obtain ⟨t1, hget⟩ := exo_at I1.hok ea
  obtain ⟨mA, hns, hr⟩ := exd_at I1.hok ed
  obtain ⟨od, ho, hl⟩ := lookIn_ns hns
  obtain ⟨u, hu, ru⟩ := RelO.some_of (v := v) (o := mA n) (by rw [← l]; exact hr n)
  have J : PySem.W.InstAt s1.heap a { cls := .ref D, dict := some dd, data := .fields #[.ref t1, .none, .none, .none, .bool false, .none] } D (some od) := ⟨hget, rfl, rfl, ho⟩
  exact HandSPX.exc_get I1.kIn J T.ga T.gg T.exC (PySem.W.findObj_own T.hdC hno rfl (by rw [hl, hu])) (handed_of ru) ⟨v, H1, I1.tok _, ru, q⟩
/-- C(e, ..), an own error class with an own __init__, as a value -/
structure mkO (C : Addr) (sp : Sp) (vs : List V) (H : Hp) (Q : VK) : Prop where
  len : vs.length ≤ 1000
  k : ∀ a, H a = none → sp (.ref a :: vs) (upd H a (exo a C none)) (fun v H2 => v = .non ∧ Q (.ref a) H2) E0
def tMkV (C : Addr) (sp : Sp) (ta : TA) : TE := fun σ H Q => ta σ H fun vs H1 => mkO C sp vs H1 Q
section
variable {X : Cx} {CX : CXT} {x : Str} {C fI : Addr} {k : Nat} {fd : FuncData} {ps ks : List Str} {sp : Sp} {p pos : Pos} {e : Expr} {es : List Expr} {ta tk : TA} {kws : List Keyword}
theorem run_oexK {pins : List (Addr × Obj)} {σ : L2.St} {H1 : Hp} {s1 : Shared} {Q : VK} {us : List Value} {kws0 : List (Str × Value)} {us2 : List Value} {vs : List V} (T : OexC X.K C) (iC : PySem.W.findIn X.K (.ref C) "__init__" = some (some (.ref fI))) (tI : PySem.W.typeIn X.K (.ref fI) = some (.type "function"))
    (F1 : FnOk X.prog X.w X.K X.mg X.base CX k fI fd ps sp) (hr : Room (k + 1) X.A) (hb : ∀ (s : Shared) (u : Value), X.K.In s.heap → BindsTo s fd ⟨u :: us, kws0⟩ (ps.zip (u :: us2))) (hx : Passes CX X E0) (I1 : Inv X pins σ H1 s1) (r1 : Vals vs us2) (hz : us.length ≤ 1000)
    (q1 : ∀ a, H1 a = none → sp (.ref a :: vs) (upd H1 a (exo a C none)) (fun v H2 => v = .non ∧ Q (.ref a) H2) E0) : wpAny (model X.prog X.w) X.A (call (.ref C) us kws0) (EP X pins σ Q) X.xe s1 := by
  obtain ⟨nm, q, N, bs, bm, sn, sub, ab, col, dd, k0, k1, k2, k3, k5, hC, hbm⟩ := T.cls
  obtain ⟨hp, g, dr, tk, os⟩ := s1
  have hsz : hp.objs.size ≤ hp.objs.size + 1 := Nat.le_succ _
  have hn : H1 (hp.objs.size + 1) = none := I1.hok.fresh hsz
  have hq := q1 (hp.objs.size + 1) hn
  have kk : ∀ b o, hp.get? b = some o → ((hp.push (PySem.W.kdv_tup us)).push (PySem.HandSPX.excO C hp.objs.size)).get? b = some o := fun b o e => Heap.get?_push_of_some _ (Heap.get?_push_of_some _ e)
  have hget : ((hp.push (PySem.W.kdv_tup us)).push (PySem.HandSPX.excO C hp.objs.size)).get? (hp.objs.size + 1) = some (PySem.HandSPX.excO C hp.objs.size) := by heap_get
  have I2 : Inv X pins σ (upd H1 (hp.objs.size + 1) (exo (hp.objs.size + 1) C none)) ⟨(hp.push (PySem.W.kdv_tup us)).push (PySem.HandSPX.excO C hp.objs.size), g, dr, tk, os⟩ :=
    I1.laid (t' := tk) (a := hp.objs.size + 1) (o := exo (hp.objs.size + 1) C none) (h' := (hp.push (PySem.W.kdv_tup us)).push (PySem.HandSPX.excO C hp.objs.size)) kk hsz (exo_ok hget)
  have r2 : Vals (V.ref (hp.objs.size + 1) :: vs) (Value.ref (hp.objs.size + 1) :: us2) := .cons rfl r1
  have b := hb ⟨(hp.push (PySem.W.kdv_tup us)).push (PySem.HandSPX.excO C hp.objs.size), g, dr, tk, os⟩ (Value.ref (hp.objs.size + 1)) I2.kIn
  have hus : us.length ≤ sizeLine := by
    rw [sizeLine_eq]
    omega
  refine wpAny_call (PySem.HandSPX2.call_ownK F.excBase_ValueError (fun Y => PySem.HandSPX.refsVE_contains Y bm hbm) (I1.kIn _ _ hC) (PySem.W.looks_findIn I1.kIn iC) (fun self => PySem.W.bind_fn I1.kIn self tI) hus
    (codeAny_mono (F1.run _ X.stack _ _ ⟨Value.ref (hp.objs.size + 1) :: us, kws0⟩ (Value.ref (hp.objs.size + 1) :: us2) _ _ E0 (hr.make C us kws0) (I2.env0.make C us kws0) b r2 hq) fun r s' hq' => ?_))
  cases r with
  | error er => exact hx pins σ _ _ er s' I2 hq'
  | ok fl =>
    cases fl with
    | ret u =>
      obtain ⟨v, H2, os2, bare2, un2, hok2, rv, ev, q2⟩ := hq'
      subst ev
      obtain ⟨h2, g2, d2, t2, os'⟩ := s'
      obtain rfl : os' = os := os2
      refine ⟨rv, ?_⟩
      exact ⟨.ref (hp.objs.size + 1), H2, I1.call (h' := h2) (g' := g2) (d' := d2) (t' := t2) (ch := []) (.trans (Un.laidN (fs := frs X.stack) (ex := []) (o := exo (hp.objs.size + 1) C none) kk (Heap.get?_none_of_le hsz) hn) un2) hok2 bare2 (fun b z => absurd z (by simp)), rfl, q2⟩
    | next => exact False.elim hq'
    | brk => exact False.elim hq'
    | cont => exact False.elim hq'
theorem pe_oex (T : OexC X.K C) (iC : PySem.W.findIn X.K (.ref C) "__init__" = some (some (.ref fI))) (tI : PySem.W.typeIn X.K (.ref fI) = some (.type "function"))
    (F1 : FnOk X.prog X.w X.K X.mg X.base CX k fI fd ps sp) (hr : Room (k + 1) X.A) (hb : Binds X.K fd ps []) (hx : Passes CX X E0) (hg : Gl X x) (hm : X.mg x = some (.ref C)) (ha : PA X (e :: es) ta)
    (hdb : (x == ("__debug__" : Str)) = false := by decide) (he : starEach (e :: es) X.env = (false, eval e X.env) :: starEach es X.env := by rfl) (hpl : (backTo pos (starEach es X.env)).any (·.1) = false := by rfl) :
    PE X (.Call (.Name x p) (e :: es) [] pos) (tMkV C sp ta) := by
  refine ⟨fun pins s σ H Q I h => ?_⟩
  refine wpAny_Call_Name_kw (ld_glob I hg hm ?_ hdb)
  refine PySem.W.callWith_K (h₀ := X.base) I.ok.mod.kin T.kC (thn (ha.run pos pins s σ H _ I h) fun us s1 ⟨vs, H1, I1, r1, hz, q1⟩ => ⟨I1.kIn, ?_⟩) he hpl
  refine run_oexK (us := us) (us2 := us) (kws0 := []) T iC tI F1 hr (fun s' u hK => ?_) hx I1 r1 (by rw [← Paired.length r1]; exact hz) q1
  have hl : (u :: us).length = ps.length := by
    have e := F1.len _ _ _ _ (q1 s1.heap.objs.size (I1.hok.fresh (Nat.le_refl _)))
    rw [← e, List.length_cons, List.length_cons, Paired.length r1]
  have b := hb s' (u :: us) hK (by rw [List.append_nil]; exact hl)
  rw [List.append_nil] at b
  exact b
/-- C(k = e, ..) -/
structure mkOK (C : Addr) (sp : Sp) (is : List Nat) (n : Nat) (zs : List V) (H : Hp) (Q : VK) : Prop where
  len : zs.length = n
  k : ∀ a, H a = none → sp (.ref a :: permL is zs) (upd H a (exo a C none)) (fun v H2 => v = .non ∧ Q (.ref a) H2) E0
def tMkVK (C : Addr) (sp : Sp) (is : List Nat) (n : Nat) (tk : TA) : TE := fun σ H Q => tk σ H fun zs H1 => mkOK C sp is n zs H1 Q
theorem pe_oexK {is : List Nat} (T : OexC X.K C) (iC : PySem.W.findIn X.K (.ref C) "__init__" = some (some (.ref fI))) (tI : PySem.W.typeIn X.K (.ref fI) = some (.type "function"))
    (F1 : FnOk X.prog X.w X.K X.mg X.base CX k fI fd ps sp) (hr : Room (k + 1) X.A) (hb : ∀ (s : Shared) (u : Value) (ws : List Value), ws.length = ks.length → BindsTo s fd ⟨[u], ks.zip ws⟩ (ps.zip (u :: permL is ws))) (hx : Passes CX X E0) (hg : Gl X x) (hm : X.mg x = some (.ref C))
    (hkw : PK X kws tk) (hall : (backToKw pos (keywordEach kws X.env)).all (·.1.isSome) = true := by rfl) (hks : (backToKw pos (keywordEach kws X.env)).filterMap (·.1) = ks := by rfl)
    (hdb : (x == ("__debug__" : Str)) = false := by decide)
    (hpl : ((backTo pos (starEach [] X.env)).any (·.1) || (backToKw pos (keywordEach kws X.env)).any (·.1.isNone)) = false := by rfl) :
    PE X (.Call (.Name x p) [] kws pos) (tMkVK C sp is ks.length tk) := by
  refine ⟨fun pins s σ H Q I h => ?_⟩
  refine wpAny_Call_Name_kw (ld_glob I hg hm ?_ hdb)
  refine PySem.W.callWith_KW0 (h₀ := X.base) I.ok.mod.kin T.kC hall (thn (hkw.run pos pins s σ H _ I h) fun ws s2 ⟨zs, H2, I2, rz, hz, q2⟩ => ⟨I2.kIn, ?_⟩) hpl
  rw [hks]
  exact run_oexK (us := []) (us2 := permL is ws) T iC tI F1 hr (fun s' u hK => hb s' u ws (by rw [← Paired.length rz]; exact hz)) hx I2 (permL_rel is rz) (Nat.zero_le _) q2
/-- C(), an own error class without an own __init__ -/
theorem pe_exc0 {bmB : List Value} {B newId initId : String} (F : ExcBaseFacts B newId initId bmB) (q : PySem.W.excIn X.K C bmB newId = true) (gC : X.mg x = some (.ref C)) (kC : PySem.W.keepIn X.K (.ref C) = true) (hg : Gl X x) (hdb : (x == ("__debug__" : Str)) = false := by decide) :
    PE X (.Call (.Name x p) [] [] pos) (fun σ H Q => ∀ a, H a = none → Q (.ref a) (upd H a (ExO (.ref C) a))) := by
  refine ⟨fun pins s σ H Q I h => ?_⟩
  refine wpAny_Call_Name_kw (ld_glob I hg gC ?_ hdb)
  refine PySem.W.callWith_KW0 (h₀ := X.base) I.ok.mod.kin kC (by rfl) (thn (pk_nil.run pos pins s σ H (fun vs H1 => vs = [] ∧ H1 = H) I ⟨rfl, rfl⟩) fun ws s2 ⟨zs, H2, I2, rz, ez, eH⟩ => ⟨I2.kIn, ?_⟩) (by rfl)
  subst eH
  show wpAny _ _ (call (.ref C) []) _ _ _
  obtain ⟨bm, N, nm, qn, bs, hdct, sn, sub, ab, col, dd, k0, k1, k2, k3, k5, mN, hC, hN, hni, T⟩ := exc_obj I2.kIn q
  refine wpAny_call_exc_subT F T hC hN hni (fun h' a hm => ?_) (Nat.zero_le _)
  have hn : H2 a = none := I2.hok.gone hm.new
  obtain ⟨t, ht, _, _⟩ := hm.there
  exact ⟨.ref a, upd H2 a (ExO (.ref C) a), I2.laidN hm.keeps hm.new hn (exO_ok ht ⟨rfl, rfl⟩ rfl rfl rfl (show 4 < 6 by decide)), rfl, h a hn⟩
end
/-! ### != of two lists of the same things -/
section
variable {X : Cx}
def plainW : V → Bool
  | .int _ => true
  | .ref _ => true
  | .str _ => true
  | .non => true
  | _ => false
def rNeSameW (K : PySem.W.Frag) : R2 := fun x y H Q => ∃ a b xs, x = .ref a ∧ y = .ref b ∧ SqL K H a xs ∧ SqL K H b xs ∧ (∀ z ∈ xs, plainW z = true) ∧ Q (.bl false) H
theorem eqAt_sameW {A : Around} {s : Shared} {z : V} {u v : Value} (h : plainW z = true) (r : RelV z u) (r' : RelV z v) : SeqAt.EqAt A s u v true := by
  cases z with
  | int i =>
    have := eqAt_V (A := A) (s := s) r r' rfl rfl
    have e : eqV (.int i) (.int i) = true := by simp [eqV]
    rw [e] at this
    exact this
  | str i =>
    have := eqAt_V (A := A) (s := s) r r' rfl rfl
    have e : eqV (.str i) (.str i) = true := by simp [eqV]
    rw [e] at this
    exact this
  | non =>
    have := eqAt_V (A := A) (s := s) r r' rfl rfl
    have e : eqV .non .non = true := by simp [eqV]
    rw [e] at this
    exact this
  | ref a =>
    obtain rfl : u = Value.ref a := r
    obtain rfl : v = Value.ref a := r'
    exact SeqAt.EqAt.same _
  | _ => cases h
theorem op_neSameW (hu : X.A.units < cLine) : OpR X (compareOp .NotEq) (rNeSameW X.K) := by
  intro pins s σ H x y v u Q I rx ry h
  obtain ⟨a, b, xs, rfl, rfl, ha, hb, hp, q⟩ := h
  obtain rfl : v = Value.ref a := rx
  obtain rfl : u = Value.ref b := ry
  obtain ⟨its, r, ⟨o, n, e, c, d, dt⟩, _⟩ := I.list ha
  obtain ⟨its2, r2, ⟨o2, n2, e2, c2, d2, dt2⟩, _⟩ := I.list hb
  have hsz : its.toArray.size = its2.toArray.size := by rw [List.size_toArray, List.size_toArray, ← r.length, ← r2.length]
  show wpAny (model X.prog X.w) X.A (richCompare .NotEq (.ref a) (.ref b)) (EP X pins σ Q) X.xe s
  refine SeqAt.RcNeAt.lists (e := fun _ => true) ⟨o, e, c, n, dt⟩ ⟨o2, e2, c2, n2, dt2⟩ hsz hu (fun j h1 h2 => ?_) _ _ _ _ ?_
  · have k1 : j < xs.length := by rw [r.length]; simpa using h1
    obtain ⟨w1, hw1, rw1⟩ := r.get (List.getElem?_eq_getElem k1)
    obtain ⟨w2, hw2, rw2⟩ := r2.get (List.getElem?_eq_getElem k1)
    have g1 : its[j]? = some its.toArray[j] := by
      have h1' : j < its.length := by simpa using h1
      rw [List.getElem?_eq_getElem h1'] <;> simp
    have g2 : its2[j]? = some its2.toArray[j] := by
      have h2' : j < its2.length := by simpa using h2
      rw [List.getElem?_eq_getElem h2'] <;> simp
    rw [g1] at hw1
    rw [g2] at hw2
    rw [Option.some.inj hw1, Option.some.inj hw2]
    exact eqAt_sameW (hp _ (List.getElem_mem k1)) rw1 rw2
  · have e : (!(List.range its.toArray.size).all fun _ => true) = false := by simp
    rw [e]
    exact ⟨.bl false, H, I, rfl, q⟩
def rEqSameW (K : PySem.W.Frag) : R2 := fun x y H Q => ∃ a b xs, x = .ref a ∧ y = .ref b ∧ SqL K H a xs ∧ SqL K H b xs ∧ (∀ z ∈ xs, plainW z = true) ∧ Q (.bl true) H
theorem op_eqSameW (hu : X.A.units < cLine) : OpR X (compareOp .Eq) (rEqSameW X.K) := by
  intro pins s σ H x y v u Q I rx ry h
  obtain ⟨a, b, xs, rfl, rfl, ha, hb, hp, q⟩ := h
  obtain rfl : v = Value.ref a := rx
  obtain rfl : u = Value.ref b := ry
  obtain ⟨its, r, ⟨o, n, e, c, d, dt⟩, _⟩ := I.list ha
  obtain ⟨its2, r2, ⟨o2, n2, e2, c2, d2, dt2⟩, _⟩ := I.list hb
  have hsz : its.toArray.size = its2.toArray.size := by rw [List.size_toArray, List.size_toArray, ← r.length, ← r2.length]
  show wpAny (model X.prog X.w) X.A (richCompare .Eq (.ref a) (.ref b)) (EP X pins σ Q) X.xe s
  refine SeqAt.RcAt.lists (e := fun _ => true) ⟨o, e, c, n, dt⟩ ⟨o2, e2, c2, n2, dt2⟩ hsz hu (fun j h1 h2 => ?_) _ _ _ _ ?_
  · have k1 : j < xs.length := by rw [r.length]; simpa using h1
    obtain ⟨w1, hw1, rw1⟩ := r.get (List.getElem?_eq_getElem k1)
    obtain ⟨w2, hw2, rw2⟩ := r2.get (List.getElem?_eq_getElem k1)
    have g1 : its[j]? = some its.toArray[j] := by
      have h1' : j < its.length := by simpa using h1
      rw [List.getElem?_eq_getElem h1'] <;> simp
    have g2 : its2[j]? = some its2.toArray[j] := by
      have h2' : j < its2.length := by simpa using h2
      rw [List.getElem?_eq_getElem h2'] <;> simp
    rw [g1] at hw1
    rw [g2] at hw2
    rw [Option.some.inj hw1, Option.some.inj hw2]
    exact eqAt_sameW (hp _ (List.getElem_mem k1)) rw1 rw2
  · have e : ((List.range its.toArray.size).all fun _ => true) = true := by simp
    rw [e]
    exact ⟨.bl true, H, I, rfl, q⟩
end
/-! ### an error class right under the common one -/
structure ErrC (K : PySem.W.Frag) (C EE : Addr) : Prop where
  ec : ExcC K C
  ic : PySem.W.isClsIn K C = true
  ty : PySem.W.typeIn K (.ref C) = some (.type "type")
  cl : ∃ cd, PySem.W.clsIn K C = some cd ∧ cd.mro = [.ref C, .ref EE, .type "ValueError", .type "Exception", .type "BaseException", .type "object"]
theorem ErrC.sub {K : PySem.W.Frag} {C EE : Addr} (e : ErrC K C EE) (base : Value) : PySem.W.mroIn K C base = some ([Value.ref C, .ref EE, .type "ValueError", .type "Exception", .type "BaseException", .type "object"].contains base) := by
  obtain ⟨cd, hc, hm⟩ := e.cl
  unfold PySem.W.mroIn
  rw [hc, Option.bind_some, hm]
  rfl
end My

set_option maxHeartbeats 4000000
/-! My own rules: an instance that is called, also by keywords, also where it raises; a class method by keywords in any order; a dict comprehension over any walk. -/
namespace My
open PySem PySem.Spec PyProof.Rows L2
section
variable {X : Cx} {CX : CXT} {k : Nat} {C g : Addr} {fd : FuncData} {ps ks : List Str} {sp : Sp} {E : L2.St → XK} {fe e : Expr} {es : List Expr} {kws : List Keyword} {pos : Pos} {tf : TE} {t tk : TA}
/-- f(e, ..), f an instance of C, what is let out wished for at the caller's slots -/
def tCallOE (X : Cx) (C : Addr) (sp : Sp) (E : L2.St → XK) (tf : TE) (t : TA) : TE := fun σ H Q => tf σ H fun y H1 => ∃ a, y = V.ref a ∧ t σ H1 fun vs H2 => StX.InsC X H2 a C ∧ sp (V.ref a :: vs) H2 Q (E σ)
theorem pe_callOE (hf : PE X fe tf) (c : StX.CallO X.K C g) (F : FnOk X.prog X.w X.K X.mg X.base CX k g fd ps sp) (hr : Room k X.A) (hb : Binds X.K fd ps []) (hx : ∀ σ, PassesAt CX X σ (E σ)) (ha : PA X (e :: es) t)
    (ht : eval (.Call fe (e :: es) [] pos) X.env = (do callWith pos (← eval fe X.env) [] (backTo pos (starEach (e :: es) X.env)) (backToKw pos (keywordEach [] X.env))) := by rfl)
    (he : starEach (e :: es) X.env = (false, eval e X.env) :: starEach es X.env := by rfl) (hpl : (backTo pos (starEach es X.env)).any (·.1) = false := by rfl) : PE X (.Call fe (e :: es) [] pos) (tCallOE X C sp E tf t) := by
  refine ⟨fun pins s σ H Q I h => ?_⟩
  refine Call_ (thn (hf.run pins s σ H _ I h) fun u s1 ⟨y, H1, I1, ry, a, ey, q⟩ => ?_) ht
  subst ey
  obtain rfl : u = Value.ref a := ry
  refine StX.callO_with (thn (ha.run pos pins s1 σ H1 _ I1 q) fun us s2 ⟨vs, H2, I2, r, hi, q2⟩ => ?_) he hpl
  obtain ⟨ox, od, J, hd⟩ := StX.insC_at I2 hi
  refine ⟨⟨C, ox, od, J, hd⟩, wpAny_call (PySem.W.kco_code I2.kIn J hd c.at_ c.fn c.fi ?_)⟩
  have r2 : Vals (V.ref a :: vs) (Value.ref a :: us) := .cons rfl r
  have hl : (Value.ref a :: us).length = ps.length := by rw [← r2.length]; exact F.len _ _ _ _ q2
  have b := hb s2 (Value.ref a :: us) I2.kIn (by rw [List.append_nil]; exact hl)
  rw [List.append_nil] at b
  refine codeAny_mono (F.run X.A X.stack s2 H2 ⟨Value.ref a :: us, []⟩ (Value.ref a :: us) (V.ref a :: vs) Q (E σ) hr I2.env0 b r2 q2) fun r s' hq => ?_
  cases r with
  | error er => exact hx σ _ H2 s2 er s' I2 hq
  | ok fl =>
    cases fl with
    | ret u => exact I2.after hq
    | next => exact False.elim hq
    | brk => exact False.elim hq
    | cont => exact False.elim hq
end
section
variable {X : Cx} {CX : CXT} {k : Nat} {C q0 g : Addr} {mc : Value} {fd : FuncData} {ps ks : List Str} {sp : Sp} {E : XK} {o : Expr} {m : Str} {pos apos : Pos} {kws : List Keyword} {ta : TE} {tk : TA} {pl : Sem Bool} {gg : List Value → List Value → List Value} {gV : List V → List V → List V}
def tCMethKN (C : Addr) (n : Nat) (sp : Sp) (gV : List V → List V → List V) (E : XK) (ta : TE) (tk : TA) : TE := fun σ H Q => ta σ H fun x H1 => x = .ref C ∧ tk σ H1 fun zs H2 => zs.length = n ∧ sp (gV [.ref C] zs) H2 Q E
theorem pe_cmethKN (he : PE X o ta) (r : ClX.CRead X.K C mc) (c : ClX.CMet X.K C mc m q0 g) (F : FnOk X.prog X.w X.K X.mg X.base CX k g fd ps sp) (hr : Room k X.A) (hx : Passes CX X E) (hkw : PK X kws tk)
    (hb : KBn X.K fd ps (0 + 1) ks gg gV)
    (hall : (backToKw pos (keywordEach kws X.env)).all (·.1.isSome) = true := by rfl) (hks : (backToKw pos (keywordEach kws X.env)).filterMap (·.1) = ks := by rfl)
    (hpl : ((backTo pos (starEach [] X.env)).any (·.1) || (backToKw pos (keywordEach kws X.env)).any (·.1.isNone)) = false := by rfl)
    (ht : eval (.Call (.Attribute o m apos) [] kws pos) X.env = (do
      let ov ← eval o X.env
      standAt apos.atName
      let (f, first) ← holding [ov] (getMethod ov m pl)
      callWith pos f first (backTo pos (starEach [] X.env)) (backToKw pos (keywordEach kws X.env))) := by rfl) :
    PE X (.Call (.Attribute o m apos) [] kws pos) (tCMethKN C ks.length sp gV E ta tk) := by
  refine ⟨fun pins s σ H Q I h => ?_⟩
  refine PySem.W.methodCall_KW (pl := pl) (thn (he.run pins s σ H _ I h) fun u s1 ⟨x, H1, I1, rx, ex, h2⟩ => ?_) ht
  subst ex
  obtain rfl : u = Value.ref C := rx
  refine ClX.getmethcm_ok I1 r c fun s2 I2 => ?_
  refine PySem.W.callWith_of hpl (PySem.W.keeps_M (K := X.K) (self := Value.ref C) c.fi) (evalArgs_kw2_nil hall (thn (hkw.run pos _ s2 σ H1 _ I2 h2) fun ws s3 ⟨zs, H2, I3, rz, hl, h3⟩ => ⟨⟨ClX.pin_at I3, I3.kIn⟩, ?_⟩))
  rw [hks]
  suffices z : wpAny (model X.prog X.w) X.A (call (.ref s1.heap.objs.size) [] (ks.zip ws)) (EP X ((s1.heap.objs.size, PySem.W.methodObj (.ref g) (.ref C)) :: pins) σ Q) X.xe s3 from thn z fun _ _ y => ClX.unpinE y
  refine wpAny_call (PySem.W.method_call (ClX.pin_at I3) ?_)
  have r1 : Vals [V.ref C] [Value.ref C] := .cons rfl .nil
  have r2 := hb.rel r1 rz
  refine codeAny_mono (F.run X.A X.stack s3 H2 ⟨Value.ref C :: [], ks.zip ws⟩ (gg [Value.ref C] ws) (gV [V.ref C] zs) Q E hr I3.env0 (hb.to s3 [Value.ref C] ws I3.kIn rfl (rz.length.symm.trans hl)) r2 h3) fun r s' hq => ?_
  cases r with
  | error er => exact hx _ σ H2 s3 er s' I3 hq
  | ok fl =>
    cases fl with
    | ret u => exact I3.after hq
    | next => exact False.elim hq
    | brk => exact False.elim hq
    | cont => exact False.elim hq
end
/-! ### an instance called by keywords -/
theorem callOK_of {M : Model} {A : Around} {E : Value → Shared → Prop} {s : Shared} {a : Addr} {pos : Pos} {Q : Value → Shared → Prop} {args : List (Bool × Sem Value)} {kws : List (Option Str × Sem Value)} (hplain : (args.any (·.1) || kws.any (·.1.isNone)) = false)
    (h : wpAny M A (evalArgs (.ref a) true args kws) (fun z s₁ => (∃ C ox od, PySem.W.InstAt s₁.heap a ox C od ∧ ox.data = .plain) ∧ wpAny M A (call (.ref a) ([] ++ z.pos) z.kw) Q E s₁) E s) : wpAny M A (callWith pos (.ref a) [] args kws) Q E s := by
  unfold callWith
  have h1 := (Bool.or_eq_false_iff.mp hplain).1
  have h2 := (Bool.or_eq_false_iff.mp hplain).2
  refine wpAny_bind (wpAny_holding (wpAny_mono (by first | exact h | (simp only [h1, h2]; exact h)) (fun z s₁ h₁ => wpAny_bind (wpAny_standAt ?_)) fun _ _ y => y))
  obtain ⟨⟨C, ox, od, J, hd⟩, h₁⟩ := h₁
  have L := PySem.W.kco_keeper (M := M) J hd
  simp only [h1, h2]
  refine wpAny_bind (L.here ?_)
  have tail : ∀ {t : Sem Value}, wpAny M A t Q E s₁ → wpAny M A (t >>= fun r => holding [r] point >>= fun _ => pure r) Q E s₁ :=
    fun ht => wpAny_bind (wpAny_mono ht (fun r s₂ hr => wpAny_bind (wpAny_holding (wpAny_point (wpAny_pure hr)))) fun _ _ y => y)
  exact tail (wpAny_operateT h₁)
section
variable {X : Cx} {CX : CXT} {k : Nat} {C g : Addr} {fd : FuncData} {ps ks : List Str} {sp : Sp} {E : XK} {fe : Expr} {kws : List Keyword} {pos : Pos} {tf : TE} {tk : TA}
def tCallOK (X : Cx) (C : Addr) (n : Nat) (sp : Sp) (E : XK) (tf : TE) (tk : TA) : TE := fun σ H Q => tf σ H fun y H1 => ∃ a, y = V.ref a ∧ tk σ H1 fun zs H2 => zs.length = n ∧ StX.InsC X H2 a C ∧ sp (V.ref a :: zs) H2 Q E
theorem pe_callOK (hf : PE X fe tf) (c : StX.CallO X.K C g) (F : FnOk X.prog X.w X.K X.mg X.base CX k g fd ps sp) (hr : Room k X.A) (hx : Passes CX X E) (hkw : PK X kws tk)
    (hb : ∀ (s : Shared) (u : Value) (ws : List Value), X.K.In s.heap → ws.length = ks.length → BindsTo s fd ⟨[u], ks.zip ws⟩ (ps.zip (u :: ws)))
    (hall : (backToKw pos (keywordEach kws X.env)).all (·.1.isSome) = true := by rfl) (hks : (backToKw pos (keywordEach kws X.env)).filterMap (·.1) = ks := by rfl)
    (hpl : ((backTo pos (starEach [] X.env)).any (·.1) || (backToKw pos (keywordEach kws X.env)).any (·.1.isNone)) = false := by rfl)
    (ht : eval (.Call fe [] kws pos) X.env = (do callWith pos (← eval fe X.env) [] (backTo pos (starEach [] X.env)) (backToKw pos (keywordEach kws X.env))) := by rfl) :
    PE X (.Call fe [] kws pos) (tCallOK X C ks.length sp E tf tk) := by
  refine ⟨fun pins s σ H Q I h => ?_⟩
  show wpAny _ _ (eval (.Call fe [] kws pos) X.env) _ _ _
  rw [ht]
  refine wpAny_bind (thn (hf.run pins s σ H _ I h) fun u s1 ⟨y, H1, I1, ry, a, ey, q⟩ => ?_)
  subst ey
  obtain rfl : u = Value.ref a := ry
  refine callOK_of hpl (evalArgs_kw2_nil hall (thn (hkw.run pos pins s1 σ H1 _ I1 q) fun ws s2 ⟨zs, H2, I2, rz, hl, hi, q2⟩ => ?_))
  rw [hks]
  obtain ⟨ox, od, J, hd⟩ := StX.insC_at I2 hi
  refine ⟨⟨C, ox, od, J, hd⟩, wpAny_call (PySem.W.kco_code I2.kIn J hd c.at_ c.fn c.fi ?_)⟩
  have r2 : Vals (V.ref a :: zs) (Value.ref a :: ws) := .cons rfl rz
  refine codeAny_mono (F.run X.A X.stack s2 H2 ⟨Value.ref a :: [], ks.zip ws⟩ (Value.ref a :: ws) (V.ref a :: zs) Q E hr I2.env0 (hb s2 (.ref a) ws I2.kIn (rz.length.symm.trans hl)) r2 q2) fun r s' hq => ?_
  cases r with
  | error er => exact hx _ σ H2 s2 er s' I2 hq
  | ok fl =>
    cases fl with
    | ret u => exact I2.after hq
    | next => exact False.elim hq
    | brk => exact False.elim hq
    | cont => exact False.elim hq
end
end My

/-! My own rules: an instance in a list of ints and itself, != an int, within an except suite. -/
namespace My
open PySem PySem.Spec PyProof.Rows L2
section
open PySem.SeqAt MeetsSeq MeetsSeq2 MeetsSeq3 SeqRoads2
variable {prog : Program} {w : World} {A : Around} {R : Result → Shared → Prop}
theorem eqBool_same {A : Around} {Ex : Value → Shared → Prop} {s : Shared} {a : Addr} {Q : Bool → Shared → Prop} (h : Q true s) : wpAny (model prog w) A (eqBool (.ref a) (.ref a)) Q Ex s := by
  unfold eqBool
  refine wpAny_holding ?_
  refine wpAny_ite_split (fun _ => ?_) (fun hab => absurd (beq_self_eq_true _) hab)
  wp_walk
  exact h
theorem contains_loopT (l : Addr) (x : Value) (j : Nat) (I : Shared → Prop)
    (hl : ∀ s, I s → ∃ (items : Array Value) (n : Nat), s.heap.get? l = some { cls := .type "list", data := .seq items n } ∧ j < items.size ∧ ∀ i (h : i < items.size), i ≤ j → wpAny (model prog w) A.in1 (eqBool items[i] x) (fun r s' => r = decide (i = j) ∧ I s') (fun e s' => R (.error e) s') s)
    (fin : ∀ s, I s → R (.ok (.ret (.bool true))) s) (k : Nat) :
    ∀ i : Nat, j - i = k → i ≤ j → ∀ s, I s → wpAny (model prog w) A.in1 (Builtin.«list.__contains__.loop» ⟨[.ref l, x, rawInt i], []⟩) (GQ.FinOf prog w A R) (fun e s' => R (.error e) s') s := by
  induction k with
  | zero =>
    intro i hk hi s h
    obtain ⟨items, n, hl1, hs1, turn⟩ := hl _ h
    have hlt : i < items.size := by omega
    have ht := turn i hlt hi
    obtain ⟨hp, g, d, tk, os⟩ := s
    wp_walk using AutoSeq1.wpAny_loadPart' hl1
    have hi1 : items[((i : Nat) : Int).toNat]? = some items[i] := by simp [hlt]
    rw [hi1]
    refine wpAny_bind (wpAny_mono ht (fun r s2 h2 => ?_) fun _ _ x => x)
    obtain ⟨hr, h2⟩ := h2
    rw [decide_eq_true (show i = j by omega)] at hr
    subst hr
    have hR := fin s2 h2
    obtain ⟨hp2, g2, d2, tk2, os2⟩ := s2
    wp_walk
    exact hR
  | succ k ih =>
    intro i hk hi s h
    obtain ⟨items, n, hl1, hs1, turn⟩ := hl _ h
    have hlt : i < items.size := by omega
    have ht := turn i hlt hi
    obtain ⟨hp, g, d, tk, os⟩ := s
    wp_walk using AutoSeq1.wpAny_loadPart' hl1
    have hi1 : items[((i : Nat) : Int).toNat]? = some items[i] := by simp [hlt]
    have hc : ((i : Int) + 1) = ((i + 1 : Nat) : Int) := by omega
    rw [hi1]
    refine wpAny_bind (wpAny_mono ht (fun r s2 h2 => ?_) fun _ _ x => x)
    obtain ⟨hr, h2⟩ := h2
    rw [decide_eq_false (show ¬ i = j by omega)] at hr
    subst hr
    have hrec := ih (i + 1) (by omega) (by omega) s2 h2
    obtain ⟨hp2, g2, d2, tk2, os2⟩ := s2
    wp_walk
    rw [hc]
    exact ⟨plainId_quiet plain_contains_loop _, codeAny_builtin entry_contains_loop (by
      rw [Around.under_plainId plain_contains_loop _]
      exact hrec)⟩
theorem list_containsT (l : Addr) (x : Value) (j : Nat) (I : Shared → Prop)
    (hl : ∀ s, I s → ∃ (items : Array Value) (n : Nat), s.heap.get? l = some { cls := .type "list", data := .seq items n } ∧ j < items.size ∧ ∀ i (h : i < items.size), i ≤ j → wpAny (model prog w) A.in1 (eqBool items[i] x) (fun r s' => r = decide (i = j) ∧ I s') (fun e s' => R (.error e) s') s)
    (fin : ∀ s, I s → R (.ok (.ret (.bool true))) s) {s : Shared} (h : I s) : wpAny (model prog w) A.in1 (Builtin.«list.__contains__» ⟨[.ref l, x], []⟩) (GQ.FinOf prog w A R) (fun e s' => R (.error e) s') s := by
  have hrec := contains_loopT (A := A) (R := R) l x j I hl fin _ 0 rfl (Nat.zero_le _) s h
  obtain ⟨items, n, hl1, _, _⟩ := hl _ h
  obtain ⟨hp, g, d, tk, os⟩ := s
  wp_walk using AutoSeq1.wpAny_loadPart' hl1
  exact ⟨plainId_quiet plain_contains_loop _, codeAny_builtin entry_contains_loop (by
    rw [Around.under_plainId plain_contains_loop _]
    exact hrec)⟩
end
/-- an instance != an int -/
theorem ne_KI {prog : Program} {w : World} {A : Around} {Ex : Value → Shared → Prop} {s : Shared} {K : PySem.W.Frag} {C f a : Addr} {oa : Obj} {oda : Option Obj} {i : Int} {tk : Tok} {Q : Value → Shared → Prop} (hu : A.units + 1 < cLine) (X : K.In s.heap) (N : NoNe K C f)
    (hi : PySem.W.subIn K (.type "int") (.ref C) = some false) (I : PySem.W.InstAt s.heap a oa C oda) (h : wpAny (model prog w) A.in1 (call (.ref f) [.ref a, .int i tk]) (fun v s' => ∃ r, v = .bool r ∧ Q (.bool (!r)) s') Ex s) :
    wpAny (model prog w) A (richCompare .NotEq (.ref a) (.int i tk)) Q Ex s := by
  have body : wpAny (model prog w) A.in1 (Builtin.«object.__ne__» ⟨[.ref a, .int i tk], []⟩) (fun fin s' => ∃ r, fin = .done (.ret (.bool (!r))) ∧ Q (.bool (!r)) s') Ex s := by
    unfold Builtin.«object.__ne__»
    refine wpAny_bind (wpAny_of_eq (a := ((Value.ref a : Value), [Value.int i tk])) (by first | rfl | (simp only [slotArgs]; rfl)) ?_)
    refine wpAny_bind (wpAny_cRoomFor hu ?_)
    refine wpAny_bind (PySem.W.ifBound_K X I N.eq N.fn (wpAny_mono h (fun v s' hv => ?_) fun _ _ e => e))
    obtain ⟨r, rfl, q⟩ := hv
    refine wpAny_bind (wpAny_truthy_bool ?_)
    exact wpAny_pure ⟨r, rfl, q⟩
  have below : PySem.W.Looks (model prog w) s.heap (isInstance (.ref a) (.type "object")) true := I.type.andThen (PySem.W.looks_subIn X N.ob)
  have one : wpAny (model prog w) A (tryCompare (.ref a) "__ne__" (.int i tk)) (fun r s' => ∃ t, r = some (.bool (!t)) ∧ Q (.bool (!t)) s') Ex s := by
    unfold tryCompare
    simp only [callSpecialIfBound?, bindSpecialIfBound?]
    refine wpAny_bind (wpAny_holding (wpAny_bind (wpAny_bind (wpAny_bind (I.type.here ((PySem.W.looks_findIn X N.ne).here ?_))))))
    simp only [F.cmp_object.ne.bind]
    refine wpAny_bind (wpAny_askSetting (wpAny_ite ?_))
    have fin : wpAny (model prog w) A (call (.builtin "object.__ne__") ([.ref a] ++ [.int i tk]) >>= fun v => pure (some v)) (fun r s' => ∃ t, r = some (.bool (!t)) ∧ Q (.bool (!t)) s') Ex s := by
      refine wpAny_bind (wpAny_call (codeAny_call_builtin F.cmp_object.ne.plain F.cmpEntry_ne (PySem.W.check_slot F.cmpKind_ne F.cmpSplit_ne below (F.cmpArgs_ne _ _) (wpAny_mono body (fun fin s' hf => ?_) fun _ _ e => e))))
      obtain ⟨r, rfl, q⟩ := hf
      exact wpAny_pure ⟨r, rfl, q⟩
    have fin2 := wpAny_mono fin (Q' := fun a s' => wpAny (model prog w) A (match a with
        | some Value.notImplemented => pure none
        | none => pure none
        | some v => pure (some v)) (fun r s' => ∃ t, r = some (Value.bool !t) ∧ Q (Value.bool !t) s') Ex s') (fun r s' hr => by
      obtain ⟨t, rfl, q⟩ := hr
      exact wpAny_pure ⟨t, rfl, q⟩) fun _ _ e => e
    split
    · exact wpAny_pure (by exact fin2)
    · exact wpAny_tryCatch (wpAny_pure (by exact fin2))
  unfold richCompare
  simp only [oneThing_ref]
  refine wpAny_holding (wpAny_bind (wpAny_cRoomFor (by omega) ?_))
  refine wpAny_bind (I.type.here (wpAny_bind (wpAny_typeOf (typeIs_int s i tk) ?_)))
  split
  · refine wpAny_bind ((PySem.W.looks_subIn X hi).here ?_)
    simp only [Bool.false_eq_true, if_false]
    refine wpAny_bind (wpAny_mono one (fun r s' z => ?_) fun _ _ e => e)
    obtain ⟨t, rfl, hq⟩ := z
    exact wpAny_pure hq
  · refine wpAny_bind (wpAny_pure ?_)
    simp only [Bool.false_eq_true, if_false]
    refine wpAny_bind (wpAny_mono one (fun r s' z => ?_) fun _ _ e => e)
    obtain ⟨t, rfl, hq⟩ := z
    exact wpAny_pure hq
section
variable {X : Cx} {k : Nat} {C f : Addr} {fd : FuncData} {ps : List Str} {sp : Sp} {E : XK} {p : Addr × Obj}
theorem run_own1P {pins : List (Addr × Obj)} {s : Shared} {σ : L2.St} {H : Hp} {Q : VK} {us : List Value} {vs : List V} (F : FnP X.prog X.w X.K X.mg X.base k f fd ps sp) (hr : L2H.RoomH (k + 1) X.A) (hp : p ∈ X.pn) (hb : Binds X.K fd ps [])
    (I : Inv X pins σ H s) (r : Vals vs us) (h : sp vs H Q E) : wpAny (model X.prog X.w) X.A.in1 (call (.ref f) us) (EP X pins σ Q) X.xe s := by
  have hl : (us ++ []).length = ps.length := by
    rw [List.append_nil, ← F.len _ _ _ _ h]
    exact r.length.symm
  have P1 := I.pin p (List.mem_append_left _ hp)
  have hpin : L2H.PinOk X.stack H s p := ⟨P1.1, P1.2.1, fun hm => (List.mem_cons.mp (I.stkSub p.1 hm)).elim P1.2.2.1 P1.2.2.2.1, P1.2.2.2.2⟩
  have hr1 : L2H.RoomH k X.A.in1 := ⟨by have := hr.dp; show X.A.depth + 3 * k + 5 < _; omega, by have := hr.un; show X.A.units + 1 + 16 * k + 200 < _; omega⟩
  refine wpAny_call (codeAny_mono (F.run X.A.in1 X.stack s H ⟨us, []⟩ us vs _ E p hr1 hpin I.env0.in1 (by
    have := hb s us I.kIn hl
    rw [List.append_nil] at this
    exact this) r h) fun r s' hq => ?_)
  cases r with
  | error e => exact hq.elim
  | ok fl =>
    cases fl with
    | ret w => exact I.after hq
    | next => exact False.elim hq
    | brk => exact False.elim hq
    | cont => exact False.elim hq
/-- an instance in a list that holds it behind some ints that are not equal to it -/
def rInP (sp : Sp) (E : XK) (C : Addr) : R2 := fun x y H Q => ∃ a dx fs l, ∃ ys : List V, ∃ j : Nat, x = .ref a ∧ y = .ref l ∧ H a = some (.ins C dx fs) ∧ H l = some (.lst ys) ∧ ys[j]? = some (V.ref a) ∧ (∀ i, i < j → ∃ n : Int, ys[i]? = some (V.int n) ∧ sp [.ref a, .int n] H (fun v H' => v = .bl false ∧ H' = H) E) ∧ Q (.bl true) H
theorem in_ownP (O : OthC X.K C f) (Fk : FnP X.prog X.w X.K X.mg X.base k f fd ps sp) (hr : L2H.RoomH (k + 1) X.A) (hp : p ∈ X.pn) (hb : Binds X.K fd ps []) : OpR X (compareOp .In) (rInP sp E C) := by
  intro pins s σ H x y v u Q I rx ry h
  obtain ⟨a, dx, fs, l, ys, j, rfl, rfl, ea, el, hj, hz, q⟩ := h
  obtain rfl : v = Value.ref a := rx
  obtain rfl : u = Value.ref l := ry
  obtain ⟨z0, its0, n0, r0, e0⟩ := I.hok l _ el
  show wpAny (model X.prog X.w) X.A (do return .bool (← contains (.ref l) (.ref a))) (EP X pins σ Q) X.xe s
  have hT : s.TypeIs (.ref l) "list" := ⟨_, e0, rfl⟩
  have hjl := (List.getElem?_eq_some_iff.mp hj).1
  refine wpAny_bind (wpAny_contains_slot hT F.slot_list_contains (wpAny_mono (GQ.call_here (Q := fun v s' => v = .bool true ∧ Inv X pins σ H s') F.slot_list_contains hT F.entry_list_contains (F.args_list_contains_2 _ _)
    (list_containsT l (.ref a) j (fun s' => Inv X pins σ H s') (fun s' I' => ?_) (fun s' I' => ⟨rfl, I'⟩) I)) (fun v s' hv => ?_) fun _ _ e => e))
  · obtain ⟨z1, its, n, r, e⟩ := I'.hok l _ el
    refine ⟨its.toArray, n, e, by rw [List.size_toArray, ← r.length]; exact hjl, fun i hi hij => ?_⟩
    have k1 : i < ys.length := by rw [r.length]; simpa using hi
    obtain ⟨u, hu, ru⟩ := r.get (List.getElem?_eq_getElem k1)
    have g1 : its[i]? = some its.toArray[i] := by
      have h1' : i < its.length := by simpa using hi
      rw [List.getElem?_eq_getElem h1'] <;> simp
    rw [g1] at hu
    rw [Option.some.inj hu]
    by_cases hE : i = j
    · subst hE
      rw [List.getElem?_eq_getElem k1] at hj
      rw [Option.some.inj hj] at ru
      obtain rfl : u = Value.ref a := ru
      exact eqBool_same ⟨(decide_eq_true rfl).symm, I'⟩
    · obtain ⟨m, em, hsp⟩ := hz i (by omega)
      rw [List.getElem?_eq_getElem k1] at em
      rw [Option.some.inj em] at ru
      obtain ⟨mA, J, _⟩ := ins_get I'.hok ea
      obtain ⟨od, J, _⟩ := J.look
      obtain ⟨t, rfl⟩ := ru
      have own : wpAny (model X.prog X.w) X.A.in1 (call (.ref f) [.ref a, .int m t]) (fun v s' => ∃ r, v = .bool r ∧ ∃ t, Value.bool r = .bool t ∧ (t = decide (i = j) ∧ Inv X pins σ H s')) X.xe s' := by
        refine wpAny_mono (run_own1P (vs := [V.ref a, V.int m]) Fk hr hp hb I' (.cons rfl (.cons ⟨t, rfl⟩ .nil)) hsp) (fun v s2 hv => ?_) fun _ _ e => e
        obtain ⟨x, H2, I2, rv, ex, eH⟩ := hv
        subst ex
        subst eH
        obtain rfl : v = Value.bool false := rv
        exact ⟨false, rfl, false, rfl, (decide_eq_false hE).symm, I2⟩
      have hu1 : X.A.in1.units < cLine := by have := hr.un; show X.A.units + 1 < _; omega
      exact eqBool_any (fun z => nomatch z) (eq_right hu1 I'.kIn O.eq O.fn (typeIs_int s' m t) J O.i F.slot_int_eq (fun Q' q' => call_meets F.slot_int_eq (typeIs_int s' m t) F.entry_int_eq (F.args_int_eq_2 _ _) (dec_int_eq m t a C dx) ⟨J.at_, q'⟩) own)
  · obtain ⟨rfl, I'⟩ := hv
    exact wpAny_truthy_bool (wpAny_pure ⟨.bl true, H, I', rfl, q⟩)
/-- an instance != an int, in a suite -/
def rNeP (sp : Sp) (E : XK) (C : Addr) : R2 := fun x y H Q => ∃ a dx fs, ∃ n : Int, x = .ref a ∧ y = .int n ∧ H a = some (.ins C dx fs) ∧ sp [.ref a, .int n] H (fun v H' => ∃ b, v = .bl b ∧ Q (.bl (!b)) H') E
theorem ne_ownP (N : NoNe X.K C f) (hi : PySem.W.subIn X.K (.type "int") (.ref C) = some false) (Fk : FnP X.prog X.w X.K X.mg X.base k f fd ps sp) (hr : L2H.RoomH (k + 1) X.A) (hp : p ∈ X.pn) (hb : Binds X.K fd ps []) : OpR X (compareOp .NotEq) (rNeP sp E C) := by
  intro pins s σ H x y v u Q I rx ry h
  obtain ⟨a, dx, fs, n, rfl, rfl, ea, q⟩ := h
  obtain rfl : v = Value.ref a := rx
  obtain ⟨t, rfl⟩ := ry
  obtain ⟨mA, J, _⟩ := ins_get I.hok ea
  obtain ⟨od, J, _⟩ := J.look
  show wpAny (model X.prog X.w) X.A (richCompare .NotEq (.ref a) (.int n t)) (EP X pins σ Q) X.xe s
  refine ne_KI (by have := hr.un; omega) I.kIn N hi J (wpAny_mono (run_own1P (vs := [V.ref a, V.int n]) Fk hr hp hb I (.cons rfl (.cons ⟨t, rfl⟩ .nil)) q) (fun v s2 hv => ?_) fun _ _ e => e)
  obtain ⟨x, H2, I2, rv, b, ex, q2⟩ := hv
  subst ex
  obtain rfl : v = Value.bool b := rv
  exact ⟨b, rfl, .bl (!b), H2, I2, rfl, q2⟩
end
/-- all is written: no defaults are left -/
theorem binds_nil {K : PySem.W.Frag} {fd : FuncData} {ps : List Str} {e : List Value} (b : Binds K fd ps e) (v : Vals [] e) : Binds K fd ps [] := by
  cases v
  exact b
section
variable {X : Cx} {CX : CXT} {k : Nat} {C g : Addr} {fd : FuncData} {ps ks : List Str} {sp : Sp} {E : L2.St → XK} {fe e : Expr} {es : List Expr} {kws : List Keyword} {pos : Pos} {tf : TE} {t tk : TA}
/-- f(e, ..), f an instance of C, what is let out wished for at the caller's slots (also in a try body) -/
def tCallO2 (C : Addr) (sp : Sp) (E : L2.St → XK) (tf : TE) (t : TA) : TE := fun σ H Q => tf σ H fun y H1 => ∃ a, y = V.ref a ∧ t σ H1 fun vs H2 => (∃ dx fs, H2 a = some (.ins C dx fs)) ∧ sp (V.ref a :: vs) H2 Q (E σ)
theorem pe_callO2 (hf : PE X fe tf) (c : StX.CallO X.K C g) (F : FnOk X.prog X.w X.K X.mg X.base CX k g fd ps sp) (hr : Room k X.A) (hb : Binds X.K fd ps []) (hx : ∀ σ, PassesAt CX X σ (E σ)) (ha : PA X (e :: es) t)
    (ht : eval (.Call fe (e :: es) [] pos) X.env = (do callWith pos (← eval fe X.env) [] (backTo pos (starEach (e :: es) X.env)) (backToKw pos (keywordEach [] X.env))) := by rfl)
    (he : starEach (e :: es) X.env = (false, eval e X.env) :: starEach es X.env := by rfl) (hpl : (backTo pos (starEach es X.env)).any (·.1) = false := by rfl) : PE X (.Call fe (e :: es) [] pos) (tCallO2 C sp E tf t) := by
  refine ⟨fun pins s σ H Q I h => ?_⟩
  refine Call_ (thn (hf.run pins s σ H _ I h) fun u s1 ⟨y, H1, I1, ry, a, ey, q⟩ => ?_) ht
  subst ey
  obtain rfl : u = Value.ref a := ry
  refine StX.callO_with (thn (ha.run pos pins s1 σ H1 _ I1 q) fun us s2 ⟨vs, H2, I2, r, hi, q2⟩ => ?_) he hpl
  obtain ⟨ox, od, J, hd⟩ := StX.insC_at I2 (.inr hi)
  refine ⟨⟨C, ox, od, J, hd⟩, wpAny_call (PySem.W.kco_code I2.kIn J hd c.at_ c.fn c.fi ?_)⟩
  have r2 : Vals (V.ref a :: vs) (Value.ref a :: us) := .cons rfl r
  have hl : (Value.ref a :: us).length = ps.length := by rw [← r2.length]; exact F.len _ _ _ _ q2
  have b := hb s2 (Value.ref a :: us) I2.kIn (by rw [List.append_nil]; exact hl)
  rw [List.append_nil] at b
  refine codeAny_mono (F.run X.A X.stack s2 H2 ⟨Value.ref a :: us, []⟩ (Value.ref a :: us) (V.ref a :: vs) Q (E σ) hr I2.env0 b r2 q2) fun r s' hq => ?_
  cases r with
  | error er => exact hx σ _ H2 s2 er s' I2 hq
  | ok fl =>
    cases fl with
    | ret u => exact I2.after hq
    | next => exact False.elim hq
    | brk => exact False.elim hq
    | cont => exact False.elim hq
end
end My

/-! My own rules: == of two tuples of instances with an own ==, whatever it answers. -/
namespace My
open PySem PySem.Spec PyProof.Rows L2
section
open PySem PySem.SeqAt
open MeetsSeq MeetsSeq2 MeetsSeq3 SeqRoads2
variable {prog : Program} {w : World} {A : Around} {R : Result → Shared → Prop}
theorem tuple_eqB (l b : Addr) (items items2 : Array Value) (n n2 : Nat) (dd dd2 : Option Addr) (sl sl2 : Array (Option Value)) (t : Nat → Bool) (I : Nat → Shared → Prop)
    (turn : ∀ i (h1 : i < items.size) (h2 : i < items2.size) s, I i s → wpAny (model prog w) A.in1 (eqBool items[i] items2[i]) (fun r s' => r = t i ∧ I (i + 1) s') (fun e s' => R (.error e) s') s)
    (ans : Bool) (hans : ans = true ↔ items.size = items2.size ∧ ∀ i, i < items.size → i < items2.size → t i = true)
    (fin : ∀ i s, I i s → R (.ok (.ret (.bool ans))) s) {s : Shared} (hl1 : s.heap.get? l = some { cls := .type "tuple", dict := dd, data := .seq items n, slots := sl }) (hb1 : s.heap.get? b = some { cls := .type "tuple", dict := dd2, data := .seq items2 n2, slots := sl2 }) (h : I 0 s) :
    wpAny (model prog w) A.in1 (Builtin.«tuple.__eq__» ⟨[.ref l, .ref b], []⟩) (GQ.FinOf prog w A R) (fun e s' => R (.error e) s') s := by
  have f2 := AutoSeq1.sub_tuple_tuple
  have hZ : (items.toList.zip items2.toList).length = min items.size items2.size := by simp
  have h0 := h
  obtain ⟨hp, g, d, tk, os⟩ := s
  wp_walk using wpAny_loadPart' hl1, wpAny_loadPart' hb1, wpAny_forIn_list _ (fun rest b s' => b.1 = none ∧ ∃ i, rest = (items.toList.zip items2.toList).drop i ∧ i ≤ min items.size items2.size ∧ I i s' ∧ ∀ j, j < i → t j = true) _
  case turn =>
    rintro ⟨y, x⟩ rest b s' ⟨hb', i, hz, hi, hI, hall⟩
    have hlt : i < (items.toList.zip items2.toList).length := by
      rcases Nat.lt_or_ge i (items.toList.zip items2.toList).length with h' | h'
      · exact h'
      · rw [List.drop_of_length_le h'] at hz; cases hz
    have hlt' := hlt
    rw [hZ] at hlt'
    have h1 : i < items.size := by omega
    have h2 : i < items2.size := by omega
    rw [List.drop_eq_getElem_cons hlt] at hz
    injection hz with hyx hrest
    have hy : y = items[i] := by have := congrArg Prod.fst hyx; simpa using this
    have hx : x = items2[i] := by have := congrArg Prod.snd hyx; simpa using this
    subst hy hx
    refine wpAny_bind (wpAny_mono (turn i h1 h2 s' hI) (fun r s2 q2 => ?_) fun _ _ x => x)
    obtain ⟨hr, q2⟩ := q2
    cases ht : t i with
    | true =>
      rw [ht] at hr
      subst hr
      wp_walk
      exact ⟨rfl, i + 1, hrest, by omega, q2, fun j hj => by
        by_cases e : j = i
        · rw [e]; exact ht
        · exact hall j (by omega)⟩
    | false =>
      rw [ht] at hr
      subst hr
      have ha : ans = false := by
        cases ha : ans with
        | false => rfl
        | true =>
          have := (hans.mp ha).2 i h1 h2
          rw [ht] at this
          cases this
      have hR := fin _ _ q2
      rw [ha] at hR
      wp_walk
      exact hR
  case fin =>
    rintro ⟨b1, b2⟩ s' ⟨hb', i, hz, hi, hI, hall⟩
    simp only at hb'
    subst hb'
    have hge : min items.size items2.size ≤ i := by
      rcases Nat.lt_or_ge i (items.toList.zip items2.toList).length with h' | h'
      · rw [List.drop_eq_getElem_cons h'] at hz; cases hz
      · exact hZ ▸ h'
    have hR : R (.ok (.ret (.bool ans))) s' := fin _ _ hI
    have ha : ans = (items.size == items2.size) := by
      cases hq : ans with
      | true => exact (beq_iff_eq.mpr (hans.mp hq).1).symm
      | false =>
        refine Eq.symm ?_
        rw [Bool.eq_false_iff]
        intro e
        have e := beq_iff_eq.mp e
        have := hans.mpr ⟨e, fun j h1 h2 => hall j (by omega)⟩
        rw [hq] at this
        cases this
    rw [ha] at hR
    wp_walk
    simpa [Builtin.Tuple.tupleCompareSizes] using hR
  case h =>
    exact ⟨rfl, 0, rfl, Nat.zero_le _, h0, fun j hj => absurd hj (Nat.not_lt_zero _)⟩
end
section
variable {X : Cx} {CX : CXT} {k : Nat} {C f : Addr} {fd : FuncData} {ps : List Str} {sp : Sp} {E : XK}
/-- two tuples of instances; t tells which pairs are equal -/
def rTupB (K : PySem.W.Frag) (C : Addr) (sp : Sp) (E : XK) : R2 := fun x y H Q => ∃ a b, ∃ xs ys : List V, ∃ t : Nat → Bool, ∃ ans : Bool, x = .ref a ∧ y = .ref b ∧ SqT K H a xs ∧ SqT K H b ys ∧
  (∀ (i : Nat) u v, xs[i]? = some u → ys[i]? = some v → ∃ p q dx dy fs gs, u = .ref p ∧ v = .ref q ∧ H p = some (.ins C dx fs) ∧ H q = some (.ins C dy gs) ∧ (p = q → t i = true) ∧ sp [.ref p, .ref q] H (fun w H' => w = .bl (t i) ∧ H' = H) E) ∧
  (ans = true ↔ xs.length = ys.length ∧ ∀ i, i < xs.length → i < ys.length → t i = true) ∧ Q (.bl ans) H
theorem op_tupB (hs : PySem.W.findIn X.K (.ref C) "__eq__" = some (some (.ref f))) (hf : PySem.W.isFn X.K (.ref f) = true) (Fk : FnOk X.prog X.w X.K X.mg X.base CX k f fd ps sp) (hr : Room (k + 1) X.A) (hb : Binds X.K fd ps []) (hx : Passes CX X E) : OpR X (compareOp .Eq) (rTupB X.K C sp E) := by
  intro pins s σ H x y v u Q I rx ry h
  obtain ⟨a, b, xs, ys, t, ans, rfl, rfl, ha, hb', hi, hans, q⟩ := h
  cases rx
  cases ry
  obtain ⟨its, r, e, z⟩ := I.tuple ha
  obtain ⟨its2, r2, e2, z2⟩ := I.tuple hb'
  show wpAny (model X.prog X.w) X.A (richCompare .Eq (.ref a) (.ref b)) (EP X pins σ Q) X.xe s
  obtain ⟨⟨cls, dd, data, sl⟩, ho, hc, n, hd⟩ := id e
  obtain ⟨⟨cls2, dd2, data2, sl2⟩, ho2, hc2, n2, hd2⟩ := id e2
  simp only at hc hd hc2 hd2
  subst hc hd hc2 hd2
  have hu : X.A.units < cLine := hr.units0
  refine wpAny_richCompare_same_room (op := .Eq) ⟨_, ho, rfl⟩ ⟨_, ho2, rfl⟩ F.slot_tuple_eq (GQ.call_here F.slot_tuple_eq ⟨_, ho, rfl⟩ F.entry_tuple_eq (F.args_tuple_eq_2 _ _) ?_) hu
  refine tuple_eqB (R := wants (fun v s' => v ≠ .notImplemented ∧ EP X pins σ Q v s') X.xe) a b its.toArray its2.toArray n n2 dd dd2 sl sl2 t (fun _ s' => Inv X pins σ H s') (fun i h1 h2 s' I' => ?_) ans (by rw [hans, List.size_toArray, List.size_toArray, r.length, r2.length]) (fun i s' I' => ⟨(fun x => nomatch x), .bl ans, H, I', rfl, q⟩) ho ho2 I
  have k1 : i < xs.length := by rw [r.length]; simpa using h1
  have k2 : i < ys.length := by rw [r2.length]; simpa using h2
  obtain ⟨u, hu1, ru⟩ := r.get (List.getElem?_eq_getElem k1)
  obtain ⟨v, hv1, rv⟩ := r2.get (List.getElem?_eq_getElem k2)
  have g1 : its[i]? = some its.toArray[i] := by
    have h1' : i < its.length := by simpa using h1
    rw [List.getElem?_eq_getElem h1'] <;> simp
  have g2 : its2[i]? = some its2.toArray[i] := by
    have h2' : i < its2.length := by simpa using h2
    rw [List.getElem?_eq_getElem h2'] <;> simp
  rw [g1] at hu1
  rw [g2] at hv1
  rw [Option.some.inj hu1, Option.some.inj hv1]
  obtain ⟨p', q', dx, dy, fs, gs, eu, evv, hp, hq, hsame, hsp⟩ := hi i _ _ (List.getElem?_eq_getElem k1) (List.getElem?_eq_getElem k2)
  rw [eu] at ru
  rw [evv] at rv
  obtain rfl : u = Value.ref p' := ru
  obtain rfl : v = Value.ref q' := rv
  by_cases hab : p' = q'
  · subst hab
    exact eqBool_same ⟨(hsame rfl).symm, I'⟩
  · obtain ⟨mA, J, _⟩ := ins_get I'.hok hp
    obtain ⟨mB, J', _⟩ := ins_get I'.hok hq
    obtain ⟨od, J, _⟩ := J.look
    obtain ⟨od', J', _⟩ := J'.look
    obtain ⟨m, hF⟩ := I'.fr
    refine GQ.eqBool_refG hab (PySem.W.cmp_K (op := .Eq) (tb := .ref C) hr.in1.units0 hF I'.ok.mod.kin J J'.type (by simp [PySem.W.notFirst]) hs hf (wpAny_mono (run_own1 (vs := [V.ref p', V.ref q']) Fk hr hb hx I' (.cons rfl (.cons rfl .nil)) hsp) (fun v s2 hv => ?_) fun _ _ e => e))
    obtain ⟨x, H2, I2, rv, ex, eH⟩ := hv
    subst ex
    subst eH
    obtain rfl : v = Value.bool (t i) := rv
    exact ⟨t i, rfl, rfl, I2⟩
end
end My

/-! My own rules: != of two tuples that are equal item by item. -/
namespace My
open PySem PySem.Spec PyProof.Rows L2
section
open PySem PySem.SeqAt
open MeetsSeq MeetsSeq2 MeetsSeq3 SeqRoads2
variable {prog : Program} {w : World} {A : Around} {R : Result → Shared → Prop}
theorem tuple_neG (l b : Addr) (items items2 : Array Value) (n n2 : Nat) (dd dd2 : Option Addr) (sl sl2 : Array (Option Value)) (hsz : items.size = items2.size) (I : Shared → Prop)
    (turn : ∀ i (h1 : i < items.size) (h2 : i < items2.size) s, I s → wpAny (model prog w) A.in1 (eqBool items[i] items2[i]) (fun r s' => r = true ∧ I s') (fun e s' => R (.error e) s') s)
    (fin : ∀ s, I s → R (.ok (.ret (.bool false))) s) {s : Shared} (hl1 : s.heap.get? l = some { cls := .type "tuple", dict := dd, data := .seq items n, slots := sl }) (hb1 : s.heap.get? b = some { cls := .type "tuple", dict := dd2, data := .seq items2 n2, slots := sl2 }) (h : I s) :
    wpAny (model prog w) A.in1 (Builtin.«tuple.__ne__» ⟨[.ref l, .ref b], []⟩) (GQ.FinOf prog w A R) (fun e s' => R (.error e) s') s := by
  have f2 := AutoSeq1.sub_tuple_tuple
  have hZ : (items.toList.zip items2.toList).length = items.size := by simp [hsz]
  have h0 := h
  obtain ⟨hp, g, d, tk, os⟩ := s
  wp_walk using wpAny_loadPart' hl1, wpAny_loadPart' hb1, wpAny_forIn_list _ (fun rest b s' => b.1 = none ∧ ∃ i, rest = (items.toList.zip items2.toList).drop i ∧ i ≤ items.size ∧ I s') _
  case turn =>
    rintro ⟨y, x⟩ rest b s' ⟨hb', i, hz, hi, hI⟩
    have hlt : i < (items.toList.zip items2.toList).length := by
      rcases Nat.lt_or_ge i (items.toList.zip items2.toList).length with h' | h'
      · exact h'
      · rw [List.drop_of_length_le h'] at hz; cases hz
    have h1 : i < items.size := hZ ▸ hlt
    have h2 : i < items2.size := hsz ▸ h1
    rw [List.drop_eq_getElem_cons hlt] at hz
    injection hz with hyx hrest
    have hy : y = items[i] := by have := congrArg Prod.fst hyx; simpa using this
    have hx : x = items2[i] := by have := congrArg Prod.snd hyx; simpa using this
    subst hy hx
    refine wpAny_bind (wpAny_mono (turn i h1 h2 s' hI) (fun r s2 q2 => ?_) fun _ _ x => x)
    obtain ⟨hr, q2⟩ := q2
    subst hr
    wp_walk
    exact ⟨rfl, i + 1, hrest, h1, q2⟩
  case fin =>
    rintro ⟨b1, b2⟩ s' ⟨hb', i, hz, hi, hI⟩
    simp only at hb'
    subst hb'
    have hR : R (.ok (.ret (.bool false))) s' := fin s' hI
    wp_walk
    simpa [Builtin.Tuple.tupleCompareSizes, hsz] using hR
  case h =>
    exact ⟨rfl, 0, rfl, Nat.zero_le _, h0⟩
end
section
variable {X : Cx} {n : Nat} {D : Eqv}
/-- != of two tuples that are equal item by item -/
def rNeG (K : PySem.W.Frag) (D : Eqv) : R2 := fun x y H Q => DTup K D x y H ∧ ∀ H', Ext H H' → Q (.bl false) H'
theorem op_neG (hD : Mon D) (h : EqG X n D) (hr : Room (n + 1) X.A) : OpR X (compareOp .NotEq) (rNeG X.K D) := by
  intro pins s σ H x y v u Q I rx ry hq
  obtain ⟨⟨a, b, xs, ys, rfl, rfl, ha, hb, p⟩, q⟩ := hq
  cases rx
  cases ry
  show wpAny (model X.prog X.w) X.A (richCompare .NotEq (.ref a) (.ref b)) (EP X pins σ Q) X.xe s
  obtain ⟨its, r, e, z⟩ := I.tuple ha
  obtain ⟨its2, r2, e2, z2⟩ := I.tuple hb
  have hsz : its.toArray.size = its2.toArray.size := by rw [List.size_toArray, List.size_toArray, ← r.length, ← r2.length]; exact p.1
  obtain ⟨⟨cls, dd, data, sl⟩, ho, hc, n1, hd⟩ := id e
  obtain ⟨⟨cls2, dd2, data2, sl2⟩, ho2, hc2, n2, hd2⟩ := id e2
  simp only at hc hd hc2 hd2
  subst hc hd hc2 hd2
  refine wpAny_richCompare_same_room (op := .NotEq) ⟨_, ho, rfl⟩ ⟨_, ho2, rfl⟩ F.slot_tuple_ne (GQ.call_here F.slot_tuple_ne ⟨_, ho, rfl⟩ F.entry_tuple_ne (F.args_tuple_ne_2 _ _) ?_) hr.units0
  exact tuple_neG (R := wants (fun v s' => v ≠ .notImplemented ∧ EP X pins σ Q v s') X.xe) a b its.toArray its2.toArray n1 n2 dd dd2 sl sl2 hsz (fun s' => LoopI X pins σ H s') (fun i h1 h2 s' l => turnG hD h ⟨hr, rfl⟩ p r r2 i h1 h2 s' l) (fun s' ⟨H', I', e⟩ => ⟨(fun x => nomatch x), .bl false, H', I', rfl, q H' e⟩) ho ho2 ⟨H, I, Ext.rfl'⟩
end
end My

/-! My own rules: tuple(zip(a, b)) of two tuples. -/
namespace My
open PySem PySem.Spec PyProof.Rows L2 RZ
section
open PySem PySem.W
variable {prog : Program} {w : World} {A : Around} {E : Value → Shared → Prop} {s : Shared}
theorem zipT_item_held {z TI TO T i1 i2 l1 l2 : Addr} {f : Bool} {oT : Obj} {k1 k2 : Nat} {xs ys : Array Value} {x y : Value} {Q : Value → Shared → Prop} (D : ZipApart z TI TO i1 i2 l1 l2)
    (hz : IsZipHeld s.heap z TI TO T f) (hT : s.heap.get? T = some oT) (hTI : IsPair s.heap TI (.ref i1) (.ref i2))
    (h1 : s.heap.IsTupleIter i1 l1 k1) (h2 : s.heap.IsTupleIter i2 l2 k2) (hl1 : s.heap.IsTuple l1 xs) (hl2 : s.heap.IsTuple l2 ys) (hx : xs[k1]? = some x) (hy : ys[k2]? = some y)
    (hQ : ∀ h', IsZipHeld h' z TI TO T true → h'.IsTupleIter i1 l1 (k1 + 1) → h'.IsTupleIter i2 l2 (k2 + 1) → IsPair h' s.heap.objs.size x y → h'.objs.size = s.heap.objs.size + 1 →
      (∀ c o, c ≠ z → c ≠ i1 → c ≠ i2 → s.heap.get? c = some o → h'.get? c = some o) → Q (.ref s.heap.objs.size) { s with heap := h' }) :
    wpAny (model prog w) A (Builtin.«zip.__next__» ⟨[.ref z], []⟩) (fun fin s' => ∃ v, fin = .done (.ret v) ∧ Q v s') E s := by
  show wpAny _ _ (field (.ref z) 2 >>= _) _ _ _
  refine wpAny_bind (wpAny_field hz rfl (x := .bool false) rfl ?_)
  show wpAny _ _ (field (.ref z) 3 >>= _) _ _ _
  refine wpAny_bind (wpAny_field hz rfl (x := .ref TI) rfl ?_)
  refine wpAny_bind (wpAny_seqItems hTI rfl ?_)
  show wpAny _ _ (Builtin.SmallTypes.ownedTupleIsFree (.ref z) >>= _) _ _ _
  refine wpAny_bind (wpAny_tupleHeld_zip hz hT fun h₁ hz₁ hs₁ => ?_)
  simp only [Bool.false_eq_true, if_false]
  refine wpAny_bind ?_
  rw [← Array.forIn_toList]
  simp only [List.forIn_cons, List.forIn_nil]
  refine wpAny_bind (wpAny_bind (wpAny_holding ?_))
  show wpAny _ _ (Builtin.SmallTypes.nextOf (.ref i1) >>= _) _ _ _
  refine wpAny_bind (nextOf_tuple_item (s := { s with heap := h₁ }) (h1.extBut hs₁.extBut D.i1z) (hl1.extBut hs₁.extBut D.l1z) hx fun h₂ h1₂ hs₂ => wpAny_pure ?_)
  refine wpAny_pure ?_
  refine wpAny_bind (wpAny_bind (wpAny_holding ?_))
  show wpAny _ _ (Builtin.SmallTypes.nextOf (.ref i2) >>= _) _ _ _
  refine wpAny_bind (nextOf_tuple_item (s := { s with heap := h₂ }) ((h2.extBut hs₁.extBut D.i2z).extBut hs₂.extBut D.i12.symm) ((hl2.extBut hs₁.extBut D.l2z).extBut hs₂.extBut D.l2i1) hy fun h₃ h2₃ hs₃ => wpAny_pure ?_)
  refine wpAny_pure (wpAny_pure ?_)
  show wpAny _ _ (newTuple [x, y] >>= _) _ _ _
  refine wpAny_bind (wpAny_newTuple ?_)
  have hsz : h₃.objs.size = s.heap.objs.size := by rw [hs₃.1, hs₂.1, hs₁.1]
  have hz₃ : IsZipHeld h₃ z TI TO T true := hs₃.extBut _ _ D.i2z.symm (hs₂.extBut _ _ D.i1z.symm hz₁)
  have hk : ∀ c o, c ≠ z → c ≠ i1 → c ≠ i2 → s.heap.get? c = some o → h₃.get? c = some o := fun c o c1 c2 c3 e => hs₃.extBut _ _ c3 (hs₂.extBut _ _ c2 (hs₁.extBut _ _ c1 e))
  have h1₃ : h₃.IsTupleIter i1 l1 (k1 + 1) := h1₂.extBut hs₃.extBut D.i12
  refine wpAny_pure ⟨_, rfl, ?_⟩
  show Q (.ref h₃.objs.size) _
  have hp : IsPair (h₃.push { cls := .type "tuple", data := .seq #[x, y] }) h₃.objs.size x y := Heap.get?_push_size _ rfl
  have hz4 : (h₃.push { cls := .type "tuple", data := .seq #[x, y] }).objs.size = h₃.objs.size + 1 := Heap.size_push ..
  rw [hsz] at hp hz4 ⊢
  exact hQ _ (Heap.get?_push_of_some _ hz₃) (h1₃.at fun o e => Heap.get?_push_of_some _ e) (h2₃.at fun o e => Heap.get?_push_of_some _ e) hp hz4 fun c o c1 c2 c3 e => Heap.get?_push_of_some _ (hk c o c1 c2 c3 e)
theorem zipT_end_held {z TI TO T i1 i2 l1 l2 : Addr} {f : Bool} {oT : Obj} {k1 k2 : Nat} {xs ys : Array Value} {Q : Fin → Shared → Prop} (hh : A.handled = none) (D : ZipApart z TI TO i1 i2 l1 l2)
    (hz : IsZipHeld s.heap z TI TO T f) (hT : s.heap.get? T = some oT) (hTI : IsPair s.heap TI (.ref i1) (.ref i2))
    (h1 : s.heap.IsTupleIter i1 l1 k1) (h2 : s.heap.IsTupleIter i2 l2 k2) (hl1 : s.heap.IsTuple l1 xs) (hl2 : s.heap.IsTuple l2 ys) (hend : xs[k1]? = none ∨ ys[k2]? = none)
    (hE : ∀ h' e, (∀ c o, c ≠ z → c ≠ i1 → c ≠ i2 → s.heap.get? c = some o → h'.get? c = some o) → (∃ o, h'.get? e = some o ∧ o.cls = .type "StopIteration") → E (.ref e) { s with heap := h' }) :
    wpAny (model prog w) A (Builtin.«zip.__next__» ⟨[.ref z], []⟩) Q E s := by
  show wpAny _ _ (field (.ref z) 2 >>= _) _ _ _
  refine wpAny_bind (wpAny_field hz rfl (x := .bool false) rfl ?_)
  show wpAny _ _ (field (.ref z) 3 >>= _) _ _ _
  refine wpAny_bind (wpAny_field hz rfl (x := .ref TI) rfl ?_)
  refine wpAny_bind (wpAny_seqItems hTI rfl ?_)
  show wpAny _ _ (Builtin.SmallTypes.ownedTupleIsFree (.ref z) >>= _) _ _ _
  refine wpAny_bind (wpAny_tupleHeld_zip hz hT fun h₁ hz₁ hs₁ => ?_)
  simp only [Bool.false_eq_true, if_false]
  refine wpAny_bind ?_
  rw [← Array.forIn_toList]
  simp only [List.forIn_cons, List.forIn_nil]
  refine wpAny_bind (wpAny_bind (wpAny_holding ?_))
  show wpAny _ _ (Builtin.SmallTypes.nextOf (.ref i1) >>= _) _ _ _
  cases hx : xs[k1]? with
  | none =>
    refine wpAny_bind (nextOf_tuple_end (s := { s with heap := h₁ }) hh (h1.extBut hs₁.extBut D.i1z) (hl1.extBut hs₁.extBut D.l1z) hx fun h₂ e hs₂ he => ?_)
    exact hE h₂ e (fun c o c1 c2 _ x => hs₂ _ _ c2 (hs₁.extBut _ _ c1 x)) he
  | some x =>
    have hy : ys[k2]? = none := by rcases hend with h | h; rw [hx] at h; cases h; exact h
    refine wpAny_bind (nextOf_tuple_item (s := { s with heap := h₁ }) (h1.extBut hs₁.extBut D.i1z) (hl1.extBut hs₁.extBut D.l1z) hx fun h₂ h1₂ hs₂ => wpAny_pure ?_)
    refine wpAny_pure ?_
    refine wpAny_bind (wpAny_bind (wpAny_holding ?_))
    show wpAny _ _ (Builtin.SmallTypes.nextOf (.ref i2) >>= _) _ _ _
    refine wpAny_bind (nextOf_tuple_end (s := { s with heap := h₂ }) hh ((h2.extBut hs₁.extBut D.i2z).extBut hs₂.extBut D.i12.symm) ((hl2.extBut hs₁.extBut D.l2z).extBut hs₂.extBut D.l2i1) hy fun h₃ e hs₃ he => ?_)
    exact hE h₃ e (fun c o c1 c2 c3 x => hs₃ _ _ c3 (hs₂.extBut _ _ c2 (hs₁.extBut _ _ c1 x))) he
theorem pyNext_zipT_item_held {z TI TO T i1 i2 l1 l2 : Addr} {f : Bool} {oT : Obj} {k1 k2 : Nat} {xs ys : Array Value} {x y : Value} {Q : Option Value → Shared → Prop} (D : ZipApart z TI TO i1 i2 l1 l2)
    (hz : IsZipHeld s.heap z TI TO T f) (hT : s.heap.get? T = some oT) (hTI : IsPair s.heap TI (.ref i1) (.ref i2))
    (h1 : s.heap.IsTupleIter i1 l1 k1) (h2 : s.heap.IsTupleIter i2 l2 k2) (hl1 : s.heap.IsTuple l1 xs) (hl2 : s.heap.IsTuple l2 ys) (hx : xs[k1]? = some x) (hy : ys[k2]? = some y)
    (hQ : ∀ h', IsZipHeld h' z TI TO T true → h'.IsTupleIter i1 l1 (k1 + 1) → h'.IsTupleIter i2 l2 (k2 + 1) → IsPair h' s.heap.objs.size x y → h'.objs.size = s.heap.objs.size + 1 →
      (∀ c o, c ≠ z → c ≠ i1 → c ≠ i2 → s.heap.get? c = some o → h'.get? c = some o) → Q (some (.ref s.heap.objs.size)) { s with heap := h' }) :
    wpAny (model prog w) A (pyNext (.ref z)) Q E s := by
  have hTy : s.TypeIs (.ref z) "zip" := ⟨_, hz, rfl⟩
  unfold pyNext
  exact wpAny_bind (wpAny_attempt (wpAny_callSpecial?_slot (name := Str.ofString "__next__") hTy F.slot_zip_next
    (wpAny_call_entry F.slot_zip_next hTy F.entry_zip_next
      (zipT_item_held D hz hT hTI h1 h2 hl1 hl2 hx hy fun h' a1 a3 a4 a5 a6 a7 => wpAny_pure (hQ h' a1 a3 a4 a5 a6 a7)) (F.args_zip_next_1 _))))
theorem pyNext_zipT_end_held {z TI TO T i1 i2 l1 l2 : Addr} {f : Bool} {oT : Obj} {k1 k2 : Nat} {xs ys : Array Value} {Q : Option Value → Shared → Prop} (hh : A.handled = none) (D : ZipApart z TI TO i1 i2 l1 l2)
    (hz : IsZipHeld s.heap z TI TO T f) (hT : s.heap.get? T = some oT) (hTI : IsPair s.heap TI (.ref i1) (.ref i2))
    (h1 : s.heap.IsTupleIter i1 l1 k1) (h2 : s.heap.IsTupleIter i2 l2 k2) (hl1 : s.heap.IsTuple l1 xs) (hl2 : s.heap.IsTuple l2 ys) (hend : xs[k1]? = none ∨ ys[k2]? = none)
    (hQ : ∀ h', (∀ c o, c ≠ z → c ≠ i1 → c ≠ i2 → s.heap.get? c = some o → h'.get? c = some o) → Q none { s with heap := h' }) : wpAny (model prog w) A (pyNext (.ref z)) Q E s := by
  have hTy : s.TypeIs (.ref z) "zip" := ⟨_, hz, rfl⟩
  unfold pyNext
  refine wpAny_bind (wpAny_attempt (wpAny_callSpecial?_slot (name := Str.ofString "__next__") hTy F.slot_zip_next
    (wpAny_call_entry F.slot_zip_next hTy F.entry_zip_next (zipT_end_held hh D hz hT hTI h1 h2 hl1 hl2 hend fun h' e hk he => ?_) (F.args_zip_next_1 _))))
  obtain ⟨o, ho, hc⟩ := he
  refine wpAny_bind (wpAny_isInstance (T := "StopIteration") (b := true) ⟨o, ho, hc⟩ isSubtype_stop ?_)
  exact wpAny_pure (hQ _ hk)
end
/-- the zip at turn i; the list that takes its tuples is at d -/
def ZSt (h : Heap) (z TI TO i1 i2 a b d : Addr) (i : Nat) : Prop := IsPair h TI (.ref i1) (.ref i2) ∧ h.IsTupleIter i1 a i ∧ h.IsTupleIter i2 b i ∧
  ((IsZip h z TI TO .none ∧ ∃ x y, IsPair h TO x y) ∨ ∃ T f oT, IsZipHeld h z TI TO T f ∧ h.get? T = some oT ∧ T ≠ z ∧ T ≠ i1 ∧ T ≠ i2 ∧ T ≠ d)
section
open PySem PySem.W
variable {prog : Program} {w : World} {A : Around} {E : Value → Shared → Prop} {s : Shared}
theorem zst_item {z TI TO i1 i2 a b d : Addr} {i : Nat} {xs ys : Array Value} {u v : Value} {Q : Option Value → Shared → Prop} (D : ZipApart z TI TO i1 i2 a b) (st : ZSt s.heap z TI TO i1 i2 a b d i) (p : s.heap.IsTuple a xs) (p2 : s.heap.IsTuple b ys) (hx : xs[i]? = some u) (hy : ys[i]? = some v) (hd : d < s.heap.objs.size)
    (hQ : ∀ h', ZSt h' z TI TO i1 i2 a b d (i + 1) → IsPair h' s.heap.objs.size u v → h'.objs.size = s.heap.objs.size + 1 → (∀ c o, c ≠ z → c ≠ TO → c ≠ i1 → c ≠ i2 → s.heap.get? c = some o → h'.get? c = some o) → Q (some (.ref s.heap.objs.size)) { s with heap := h' }) :
    wpAny (model prog w) A (pyNext (.ref z)) Q E s := by
  obtain ⟨hTI, h1, h2, hz⟩ := st
  have lt : ∀ {c o}, s.heap.get? c = some o → s.heap.objs.size ≠ c := fun e => Nat.ne_of_gt (Heap.lt_size e)
  have n1 : s.heap.objs.size ≠ i1 := let ⟨_, e, _⟩ := h1; lt e
  have n2 : s.heap.objs.size ≠ i2 := let ⟨_, e, _⟩ := h2; lt e
  rcases hz with ⟨hz, x, y, hTO⟩ | ⟨T, f, oT, hz, hT, r1, r2, r3, r4⟩
  · refine pyNext_zipT_item D hz hTI hTO h1 h2 p p2 hx hy fun h' a1 a2 a3 a4 a5 a6 hk => ?_
    exact hQ h' ⟨hk _ _ D.TIz D.TITO D.TIi1 D.TIi2 hTI, a3, a4, .inr ⟨s.heap.objs.size, false, _, a1, a5, lt hz, n1, n2, Nat.ne_of_gt hd⟩⟩ a5 a6 hk
  · refine pyNext_zipT_item_held D hz hT hTI h1 h2 p p2 hx hy fun h' a1 a3 a4 a5 a6 hk => ?_
    exact hQ h' ⟨hk _ _ D.TIz D.TIi1 D.TIi2 hTI, a3, a4, .inr ⟨T, true, oT, a1, hk _ _ r1 r2 r3 hT, r1, r2, r3, r4⟩⟩ a5 a6 fun c o c1 _ c3 c4 e => hk c o c1 c3 c4 e
theorem zst_done {z TI TO i1 i2 a b d : Addr} {i : Nat} {xs ys : Array Value} {Q : Option Value → Shared → Prop} (hh : A.handled = none) (D : ZipApart z TI TO i1 i2 a b) (st : ZSt s.heap z TI TO i1 i2 a b d i) (p : s.heap.IsTuple a xs) (p2 : s.heap.IsTuple b ys) (he : xs[i]? = none ∨ ys[i]? = none)
    (hQ : ∀ h', (∀ c o, c ≠ z → c ≠ TO → c ≠ i1 → c ≠ i2 → s.heap.get? c = some o → h'.get? c = some o) → Q none { s with heap := h' }) :
    wpAny (model prog w) A (pyNext (.ref z)) Q E s := by
  obtain ⟨hTI, h1, h2, hz⟩ := st
  rcases hz with ⟨hz, x, y, hTO⟩ | ⟨T, f, oT, hz, hT, r1, r2, r3, r4⟩
  · exact pyNext_zipT_end hh D hz hTI hTO h1 h2 p p2 he fun h' hk => hQ h' hk
  · exact pyNext_zipT_end_held hh D hz hT hTI h1 h2 p p2 he fun h' hk => hQ h' fun c o c1 _ c3 c4 e => hk c o c1 c3 c4 e
theorem ZSt.on {h h' : Heap} {z TI TO i1 i2 a b d : Addr} {i : Nat} (st : ZSt h z TI TO i1 i2 a b d i) (D : ZipApart z TI TO i1 i2 a b) (hd : d ≠ z ∧ d ≠ TI ∧ d ≠ TO ∧ d ≠ i1 ∧ d ≠ i2) (k : ∀ c o, c ≠ d → h.get? c = some o → h'.get? c = some o) : ZSt h' z TI TO i1 i2 a b d i := by
  obtain ⟨hTI, h1, h2, hz⟩ := st
  obtain ⟨d1, d2, d3, d4, d5⟩ := hd
  refine ⟨k _ _ (Ne.symm d2) hTI, h1.at fun o e => k _ o (Ne.symm d4) e, h2.at fun o e => k _ o (Ne.symm d5) e, ?_⟩
  rcases hz with ⟨hz, x, y, hTO⟩ | ⟨T, f, oT, hz, hT, r1, r2, r3, r4⟩
  · exact .inl ⟨k _ _ (Ne.symm d1) hz, x, y, k _ _ (Ne.symm d3) hTO⟩
  · exact .inr ⟨T, f, oT, k _ _ (Ne.symm d1) hz, k _ _ r4 hT, r1, r2, r3, r4⟩
end
/-- the pairs that stand so far -/
def Zs (H : Hp) (xs ys : List V) (ts : List Addr) : Prop := ∀ (j : Nat) t x y, ts[j]? = some t → xs[j]? = some x → ys[j]? = some y → H t = some (.tup [x, y])
theorem Zs.on {H H' : Hp} {xs ys : List V} {ts : List Addr} (r : Zs H xs ys ts) (s : Same H H') : Zs H' xs ys ts := fun j t x y h1 h2 h3 => s _ _ (r j t x y h1 h2 h3)
theorem sqT_on {K : PySem.W.Frag} {H H' : Hp} {a : Addr} {xs : List V} (e : Same H H') (h : SqT K H a xs) : SqT K H' a xs := by
  rcases h with (h | ⟨o, h⟩) | h
  · exact .inl (.inl (e _ _ h))
  · exact .inl (.inr ⟨o, e _ _ h⟩)
  · exact .inr h
theorem nolen_zip : typeLookup (.type "zip") "__len__" = pure none := by rw [typeLookup_type, builtinLookup_eq_fast]; kernel_rfl
theorem hint_zip : typeLookup (.type "zip") "__length_hint__" = pure none := by rw [typeLookup_type, builtinLookup_eq_fast]; kernel_rfl
section
variable {X : Cx} {pins : List (Addr × Obj)} {σ : L2.St}
theorem ext_zip {A : Around} {R : Result → Shared → Prop} {S z TI TO i1 i2 a b : Addr} {res : Value} (hh : A.in1.handled = none) (D : ZipApart z TI TO i1 i2 a b) (hS : S ≠ z ∧ S ≠ TI ∧ S ≠ TO ∧ S ≠ i1 ∧ S ≠ i2) {xs ys : List V} (hl : xs.length = ys.length) (hn : xs.length ≤ sizeLine) :
    ∀ (k i : Nat) (s : Shared) (H : Hp) (acc : Array Value) (c : Nat) (ts : List Addr), xs.length - i = k → i ≤ xs.length → Inv X pins σ H s → SqT X.K H a xs → SqT X.K H b ys → ZSt s.heap z TI TO i1 i2 a b S i →
      (∀ c ∈ [S, z, TO, i1, i2], FpOk X pins H c ∧ c < s.heap.objs.size) → s.heap.get? S = some { cls := .type "list", dict := none, data := .seq acc c, slots := #[] } → acc.toList = ts.map Value.ref → ts.length = i → Zs H xs ys ts →
      (∀ (s' : Shared) (H' : Hp) (acc' : Array Value) (c' : Nat) (ts' : List Addr), Inv X pins σ H' s' → Same H H' → s'.heap.get? S = some { cls := .type "list", dict := none, data := .seq acc' c', slots := #[] } → acc'.toList = ts'.map Value.ref → ts'.length = xs.length → Zs H' xs ys ts' → R (.ok (.ret res)) s') →
      codeAny (model X.prog X.w) A (.builtin "list.extend.loop" ⟨[.ref S, .ref z, res], []⟩) R s := by
  intro k
  induction k with
  | zero =>
    intro i s H acc c ts hk hi I qa qb st hf hL ha ht hz hR
    have hin : i = xs.length := by omega
    subst hin
    refine codeAny_builtin F.entry_extend_loop ?_
    rw [Around.under_plainId F.plain_extend_loop _]
    show wpAny _ A.in1 (pyNext (.ref z) >>= _) _ _ s
    obtain ⟨its, rv, p, _⟩ := I.tuple qa
    obtain ⟨its2, rv2, p2, _⟩ := I.tuple qb
    have l1 := rv.length
    refine wpAny_bind (zst_done hh D st p p2 (.inl (by simp; omega)) fun h' hk' => wpAny_pure ?_)
    exact hR { s with heap := h' } H acc c ts (I.turnedL (t' := s.toks) (ch := [z, TO, i1, i2]) (fun c o hb q => hk' c o (fun e => hb (by simp [e])) (fun e => hb (by simp [e])) (fun e => hb (by simp [e])) (fun e => hb (by simp [e])) q)
        (fun c hc => (hf c (List.mem_cons_of_mem _ hc)).1)) (fun _ _ e => e) (hk' S _ hS.1 hS.2.2.1 hS.2.2.2.1 hS.2.2.2.2 hL) ha ht hz
  | succ k ih =>
    intro i s H acc c ts hk hi I qa qb st hf hL ha ht hz hR
    have hlt : i < xs.length := by omega
    refine codeAny_builtin F.entry_extend_loop ?_
    rw [Around.under_plainId F.plain_extend_loop _]
    show wpAny _ A.in1 (pyNext (.ref z) >>= _) _ _ s
    obtain ⟨its, rv, p, _⟩ := I.tuple qa
    obtain ⟨its2, rv2, p2, _⟩ := I.tuple qb
    have hx : xs[i]? = some xs[i] := List.getElem?_eq_getElem hlt
    have hy : ys[i]? = some (ys[i]'(by omega)) := List.getElem?_eq_getElem (by omega)
    obtain ⟨u, hu, ru⟩ := rv.get hx
    obtain ⟨u2, hu2, ru2⟩ := rv2.get hy
    have fl : ∀ c ∈ [S, z, TO, i1, i2], c ≠ s.heap.objs.size := fun c hc => Nat.ne_of_lt (hf c hc).2
    have hsz0 : acc.size = i := by rw [← Array.length_toList, ha, List.length_map, ht]
    refine wpAny_bind (zst_item D st p p2 (u := u) (v := u2) (by simpa using hu) (by simpa using hu2) (hf S List.mem_cons_self).2 fun h' st' hT hsz hk' => ?_)
    have hL' := hk' S _ hS.1 hS.2.2.1 hS.2.2.2.1 hS.2.2.2.2 hL
    show wpAny _ A.in1 (updateSeq S (·.push (.ref s.heap.objs.size)) >>= _) _ _ _
    refine wpAny_bind ?_
    have new : ObjOk X.prog X.w (upd H s.heap.objs.size (.tup [xs[i], ys[i]'(by omega)])) h' s.heap.objs.size (.tup [xs[i], ys[i]'(by omega)]) :=
      ⟨by show 2 ≤ sizeLine; decide, [u, u2], .cons ru (.cons ru2 .nil), ⟨_, hT, rfl, _, rfl⟩⟩
    have I1 : Inv X pins σ (upd H s.heap.objs.size (.tup [xs[i], ys[i]'(by omega)])) { s with heap := h' } :=
      I.turnedNew (t' := s.toks) (ch := [z, TO, i1, i2]) (fun c o hb q => hk' c o (fun e => hb (by simp [e])) (fun e => hb (by simp [e])) (fun e => hb (by simp [e])) (fun e => hb (by simp [e])) q) (fun c hc => (hf c (List.mem_cons_of_mem _ hc)).1) (Nat.le_refl _) new
    have hnone : H s.heap.objs.size = none := I.hok.fresh (Nat.le_refl _)
    have sm : Same H (upd H s.heap.objs.size (.tup [xs[i], ys[i]'(by omega)])) := same_upd hnone
    have hf1 : ∀ c ∈ [S, z, TO, i1, i2], FpOk X pins (upd H s.heap.objs.size (.tup [xs[i], ys[i]'(by omega)])) c := fun c hc => by
      obtain ⟨q, r⟩ := (hf c hc).1
      exact ⟨by rw [upd_ne (fl c hc)]; exact q, r⟩
    refine wpAny_updateSeq hL' rfl (wpAny_pure ⟨plainId_quiet F.plain_extend_loop _, ih (i + 1) _ (upd H s.heap.objs.size (.tup [xs[i], ys[i]'(by omega)])) (acc.push (.ref s.heap.objs.size)) _ (ts ++ [s.heap.objs.size]) (by omega) hlt
      (I1.turnedL (t' := s.toks) (ch := [S]) (fun c o hb q => (Heap.get?_update_other _ _ (fun e : S = c => hb (by simp [e]))).trans q) (fun c hc => hf1 c (by rw [List.mem_singleton.mp hc]; exact List.mem_cons_self)))
      (sqT_on sm qa) (sqT_on sm qb) (st'.on D hS fun c o hc q => (Heap.get?_update_other _ _ (Ne.symm hc)).trans q) (fun c hc => ⟨hf1 c hc, ?_⟩) (Heap.get?_update_self _ hL' rfl) (by rw [Array.toList_push, ha, List.map_append]; rfl) (by rw [List.length_append, ht]; rfl) (fun j t x y h1 h2 h3 => ?_) fun s' H' acc' c' ts' I' sm' => hR s' H' acc' c' ts' I' (sm.trans sm')⟩)
      (by rw [hsz0]; omega) (by show (acc.push _).size ≤ sizeLine + 1; rw [Array.size_push, hsz0]; omega)
    · have h1 := (hf c hc).2
      show c < ((h'.update S _).objs.size)
      rw [Heap.size_update, hsz]
      exact Nat.lt_succ_of_lt h1
    · by_cases hj : j < ts.length
      · rw [List.getElem?_append_left hj] at h1
        exact sm _ _ (hz j t x y h1 h2 h3)
      · have hj' := (List.getElem?_eq_some_iff.mp h1).1
        rw [List.length_append, List.length_singleton] at hj'
        have e1 : j = i := by omega
        subst e1
        rw [List.getElem?_append_right (by omega), show j - ts.length = 0 by omega] at h1
        rw [hx] at h2
        rw [hy] at h3
        have e1 : s.heap.objs.size = t := Option.some.inj h1
        rw [← Option.some.inj h2, ← Option.some.inj h3, ← e1]
        exact upd_same

theorem collect_zip {A : Around} {E : Value → Shared → Prop} {s : Shared} {H : Hp} {z TI TO i1 i2 a b : Addr} {x0 y0 : Value} {xs ys : List V} {Q : List Value → Shared → Prop} (hh : A.handled = none) (D : ZipApart z TI TO i1 i2 a b) (hl : xs.length = ys.length) (hn : xs.length ≤ sizeLine)
    (I : Inv X pins σ H s) (qa : SqT X.K H a xs) (qb : SqT X.K H b ys) (hz : IsZip s.heap z TI TO .none) (hTI : IsPair s.heap TI (.ref i1) (.ref i2)) (hTO : IsPair s.heap TO x0 y0) (h1 : s.heap.IsTupleIter i1 a 0) (h2 : s.heap.IsTupleIter i2 b 0)
    (hf : ∀ c ∈ [z, TO, i1, i2], FpOk X pins H c) (hQ : ∀ (s' : Shared) (H' : Hp) (ts : List Addr), Inv X pins σ H' s' → Same H H' → ts.length = xs.length → Zs H' xs ys ts → Q (ts.map Value.ref) s') :
    wpAny (model X.prog X.w) A (collect (.ref z)) Q E s := by
  obtain ⟨oi1, ho1, hc1, hd1⟩ := id h1
  obtain ⟨oi2, ho2, hc2, hd2⟩ := id h2
  have lt : ∀ {c o}, s.heap.get? c = some o → s.heap.objs.size ≠ c := fun e => Nat.ne_of_gt (Heap.lt_size e)
  have hS : s.heap.objs.size ≠ z ∧ s.heap.objs.size ≠ TI ∧ s.heap.objs.size ≠ TO ∧ s.heap.objs.size ≠ i1 ∧ s.heap.objs.size ≠ i2 := ⟨lt hz, lt hTI, lt hTO, lt ho1, lt ho2⟩
  have hSf : FpOk X pins H s.heap.objs.size := I.fpOk (Nat.le_refl _) (I.hok.fresh (Nat.le_refl _))
  unfold collect
  refine wpAny_bind (wpAny_runValue (codeAny_builtin F.entry_proto_collect ?_))
  rw [Around.under_plainId F.plain_proto_collect _]
  show wpAny _ A.in1 (newList [] >>= fun l' => again (.builtin "list.__iadd__" ⟨[l', .ref z], []⟩)) _ _ s
  refine wpAny_bind (wpAny_newObj_type ?_)
  refine wpAny_pure ⟨plainId_quiet F.plain_list_iadd _, codeAny_builtin F.entry_list_iadd ?_⟩
  rw [Around.under_plainId F.plain_list_iadd _]
  have hz1 : IsZip (s.heap.push { cls := .type "list", data := .seq ([] : List Value).toArray }) z TI TO .none := Heap.get?_push_of_some _ hz
  have hT1 : ({ s with heap := s.heap.push { cls := .type "list", data := .seq ([] : List Value).toArray } } : Shared).TypeIs (.ref z) "zip" := ⟨_, hz1, rfl⟩
  show wpAny _ A.in1 (Builtin.List.listExtendWith (.ref s.heap.objs.size) (.ref z) (.ref s.heap.objs.size)) _ _ _
  unfold Builtin.List.listExtendWith
  refine wpAny_bind (wpAny_typeOf hT1 ?_)
  have e1 : Builtin.List.listSameRef (.ref s.heap.objs.size) (.ref z) = false := by simp [Builtin.List.listSameRef, hS.1]
  have e2 : (Value.type "zip" == Value.type "list") = false := by decide
  have e3 : (Value.type "zip" == Value.type "tuple") = false := by decide
  simp only [e1, e2, e3, Bool.or_false, Bool.false_eq_true, if_false]
  refine wpAny_bind (wpAny_pyIter_zip (s := { s with heap := s.heap.push { cls := .type "list", data := .seq ([] : List Value).toArray } }) hz1 ?_)
  refine wpAny_bind (wpAny_holding ?_)
  unfold Builtin.List.listLengthHint
  refine wpAny_bind (wpAny_specialOf hT1 nolen_zip ?_)
  show wpAny _ A.in1 (specialOf (Value.ref z) (Str.ofString "__length_hint__") >>= _) _ _ _
  refine wpAny_bind (wpAny_specialOf hT1 hint_zip ?_)
  refine wpAny_pure ?_
  show wpAny _ A.in1 (rule "list.extend.makes-room" >>= fun _ => Builtin.List.listTouch (.ref s.heap.objs.size) >>= fun _ =>
    again (.builtin "list.extend.loop" ⟨[.ref s.heap.objs.size, .ref z, .ref s.heap.objs.size], []⟩)) _ _ _
  refine wpAny_bind (wpAny_rule ?_)
  have hS₁ : (s.heap.push { cls := .type "list", data := .seq ([] : List Value).toArray }).get? s.heap.objs.size = some { cls := .type "list", data := .seq ([] : List Value).toArray } := Heap.get?_push_size _ rfl
  refine wpAny_bind ?_
  show wpAny _ A.in1 (updateSeq s.heap.objs.size (·.push .none) >>= fun _ => updateSeq s.heap.objs.size (·.pop)) _ _ _
  refine wpAny_bind (wpAny_updateSeq hS₁ rfl ?_)
  have hS₂ := Heap.get?_update_self (Obj.mapSeq (·.push Value.none)) hS₁ rfl
  refine wpAny_updateSeq hS₂ rfl ?_
  have hS₃ := Heap.get?_update_self (Obj.mapSeq (·.pop)) hS₂ rfl
  have oth : ∀ b o, b ≠ s.heap.objs.size → s.heap.get? b = some o →
      (((s.heap.push { cls := .type "list", data := .seq ([] : List Value).toArray }).update s.heap.objs.size (Obj.mapSeq (·.push Value.none))).update s.heap.objs.size (Obj.mapSeq (·.pop))).get? b = some o :=
    fun b o hb e => (Heap.get?_update_other _ _ (Ne.symm hb)).trans ((Heap.get?_update_other _ _ (Ne.symm hb)).trans (Heap.get?_push_of_some _ e))
  have I1 : Inv X pins σ H { s with heap := ((s.heap.push { cls := .type "list", data := .seq ([] : List Value).toArray }).update s.heap.objs.size (Obj.mapSeq (·.push Value.none))).update s.heap.objs.size (Obj.mapSeq (·.pop)) } :=
    I.turnedL (t' := s.toks) (ch := [s.heap.objs.size]) (fun b o hb e => oth b o (fun q => hb (by simp [q])) e) (fun c hc => by rw [List.mem_singleton.mp hc]; exact hSf)
  have hsz : (((s.heap.push { cls := .type "list", data := .seq ([] : List Value).toArray }).update s.heap.objs.size (Obj.mapSeq (·.push Value.none))).update s.heap.objs.size (Obj.mapSeq (·.pop))).objs.size = s.heap.objs.size + 1 := by
    rw [Heap.size_update, Heap.size_update, Heap.size_push]
  refine wpAny_pure ⟨plainId_quiet F.plain_extend_loop _, ext_zip (X := X) (pins := pins) (σ := σ) (A := A) hh D hS hl hn xs.length 0 _ H _ _ [] (by omega) (Nat.zero_le _) I1 qa qb
    ⟨oth _ _ (Ne.symm hS.2.1) hTI, ⟨oi1, oth _ _ (Ne.symm hS.2.2.2.1) ho1, hc1, hd1⟩, ⟨oi2, oth _ _ (Ne.symm hS.2.2.2.2) ho2, hc2, hd2⟩, .inl ⟨oth _ _ (Ne.symm hS.1) hz, _, _, oth _ _ (Ne.symm hS.2.2.1) hTO⟩⟩ (fun c hc => ?_) hS₃ rfl rfl (fun j t x y h => by simp at h) fun s' H' acc' c' ts' I' sm hL' ha hl' hz' => ?_⟩
  · show FpOk X pins H c ∧ c < (((s.heap.push { cls := .type "list", data := .seq ([] : List Value).toArray }).update s.heap.objs.size (Obj.mapSeq (·.push Value.none))).update s.heap.objs.size (Obj.mapSeq (·.pop))).objs.size
    rw [hsz]
    rcases List.mem_cons.mp hc with rfl | hc
    · exact ⟨hSf, Nat.lt_succ_self _⟩
    · refine ⟨hf c hc, ?_⟩
      have e' : c = z ∨ c = TO ∨ c = i1 ∨ c = i2 := by simpa using hc
      refine Nat.lt_succ_of_lt ?_
      rcases e' with q | q | q | q
      · rw [q]; exact Heap.lt_size hz
      · rw [q]; exact Heap.lt_size hTO
      · rw [q]; exact Heap.lt_size ho1
      · rw [q]; exact Heap.lt_size ho2
  · show wpAny _ A (load s.heap.objs.size >>= _) _ _ s'
    refine wpAny_bind (wpAny_load hL' ?_)
    refine wpAny_pure ?_
    show Q acc'.toList s'
    rw [ha]
    exact hQ s' H' ts' I' sm hl' hz'
theorem code_tuple_new_zip {A : Around} {E : Value → Shared → Prop} {s : Shared} {H : Hp} {z TI TO i1 i2 a b : Addr} {x0 y0 : Value} {xs ys : List V} {Q₁ : Value → Shared → Prop} (hh : A.handled = none) (D : ZipApart z TI TO i1 i2 a b) (hl : xs.length = ys.length) (hn : xs.length ≤ sizeLine)
    (I : Inv X pins σ H s) (qa : SqT X.K H a xs) (qb : SqT X.K H b ys) (hz : IsZip s.heap z TI TO .none) (hTI : IsPair s.heap TI (.ref i1) (.ref i2)) (hTO : IsPair s.heap TO x0 y0) (h1 : s.heap.IsTupleIter i1 a 0) (h2 : s.heap.IsTupleIter i2 b 0)
    (hf : ∀ c ∈ [z, TO, i1, i2], FpOk X pins H c) (h : ∀ (s' : Shared) (H' : Hp) (ts : List Addr), Inv X pins σ H' s' → Same H H' → ts.length = xs.length → Zs H' xs ys ts → Q₁ (.ref s'.heap.objs.size) { s' with heap := s'.heap.push { cls := .type "tuple", data := .seq (ts.map Value.ref).toArray } }) :
    codeAny (model X.prog X.w) A (.call (.builtin "tuple.__new__") ⟨[.type "tuple", .ref z], []⟩) (wants Q₁ E) s := by
  refine codeAny_of_tree ?_
  show wpAny _ A.in1 (do checkBuiltinCall "tuple.__new__" ⟨[.type "tuple", .ref z], []⟩; again (.builtin "tuple.__new__" ⟨[.type "tuple", .ref z], []⟩)) _ _ s
  refine wpAny_bind (wpAny_of_eq (F.newCall_tuple_1 _) (wpAny_pure ⟨plainId_quiet F.plain_tuple_new _, codeAny_builtin F.entry_tuple_new ?_⟩))
  rw [Around.under_plainId F.plain_tuple_new _]
  have hsub := sub_tuple_self
  have hinit := init_tuple_lookup
  have hmh := madeHere_tuple
  have hTI' : s.TypeIs (.ref z) "zip" := ⟨_, hz, rfl⟩
  have hh1 : A.in1.handled = none := hh
  wp_walk using wpAny_typeOf hTI', collect_zip (A := A.in1) hh1 D hl hn I qa qb hz hTI hTO h1 h2 hf
  intro s' H' ts I' sm hl' hz'
  show wpAny _ _ (Builtin.Tuple.tupleExact (ts.map Value.ref).toArray >>= fun v => ret v) _ _ _
  unfold Builtin.Tuple.tupleExact
  refine wpAny_bind (wpAny_newObj_type ?_ (by show (ts.map Value.ref).toArray.size ≤ sizeLine; rw [List.size_toArray, List.length_map, hl']; exact hn))
  exact wpAny_pure (h s' H' ts I' sm hl' hz')
theorem call_tuple_zip {A : Around} {E : Value → Shared → Prop} {s : Shared} {H : Hp} {z TI TO i1 i2 a b : Addr} {x0 y0 : Value} {xs ys : List V} {Q : Value → Shared → Prop} (hh : A.handled = none) (D : ZipApart z TI TO i1 i2 a b) (hl : xs.length = ys.length) (hn : xs.length ≤ sizeLine)
    (I : Inv X pins σ H s) (qa : SqT X.K H a xs) (qb : SqT X.K H b ys) (hz : IsZip s.heap z TI TO .none) (hTI : IsPair s.heap TI (.ref i1) (.ref i2)) (hTO : IsPair s.heap TO x0 y0) (h1 : s.heap.IsTupleIter i1 a 0) (h2 : s.heap.IsTupleIter i2 b 0)
    (hf : ∀ c ∈ [z, TO, i1, i2], FpOk X pins H c) (hQ : ∀ (s' : Shared) (H' : Hp) (ts : List Addr), Inv X pins σ H' s' → Same H H' → ts.length = xs.length → Zs H' xs ys ts → Q (.ref s'.heap.objs.size) { s' with heap := s'.heap.push { cls := .type "tuple", data := .seq (ts.map Value.ref).toArray } }) :
    wpAny (model X.prog X.w) A (call (.type "tuple") [.ref z]) Q E s := by
  refine callType_codes (Q₁ := fun obj s₁ => s₁.TypeIs obj "tuple" ∧ Q obj s₁) F.called_tuple (F.typeCall_tuple_1 _) F.entry_object_init
    (code_tuple_new_zip (A := A.in1) hh D hl hn I qa qb hz hTI hTO h1 h2 hf fun s' H' ts I' sm hl' hz' => ⟨⟨_, Heap.get?_push_size _ rfl, rfl⟩, hQ s' H' ts I' sm hl' hz'⟩) fun obj s₁ h₁ => ?_
  exact ⟨h₁.1, F.args_object_init_2 obj _, object_init_meets F.called_tuple.init.lookup F.called_tuple.made (by decide) X.prog X.w A.in1 _ s₁ ⟨h₁.1, rfl, h₁.2⟩⟩
end
section
variable {X : Cx}
/-- tuple(zip(a, b)) of two tuples of one length -/
def tTupZip (K : PySem.W.Frag) (ta : TA) : TE := fun σ H Q => ta σ H fun vs H1 => ∃ a b xs ys, vs = [V.ref a, V.ref b] ∧ SqT K H1 a xs ∧ SqT K H1 b ys ∧ xs.length = ys.length ∧ xs.length ≤ sizeLine ∧
  ∀ (p : Addr) (ts : List Addr) H2, Same H1 H2 → H2 p = some (.tup (ts.map V.ref)) → ts.length = xs.length → Zs H2 xs ys ts → Q (.ref p) H2
theorem vals_refs : ∀ ts : List Addr, Vals (ts.map V.ref) (ts.map Value.ref)
  | [] => .nil
  | t :: r => .cons rfl (vals_refs r)
/-- a fresh zip of two tuples -/
def AtZip (X : Cx) (pins : List (Addr × Obj)) (σ : L2.St) (R : List V → List V → Hp → Prop) : Value → Shared → Prop := fun x s1 => ∃ (z TI TO i1 i2 a b : Addr) (x0 y0 : Value) (xs ys : List V) (H1 : Hp), x = .ref z ∧ ZipApart z TI TO i1 i2 a b ∧ Inv X pins σ H1 s1 ∧ SqT X.K H1 a xs ∧ SqT X.K H1 b ys ∧
  IsZip s1.heap z TI TO .none ∧ IsPair s1.heap TI (.ref i1) (.ref i2) ∧ IsPair s1.heap TO x0 y0 ∧ s1.heap.IsTupleIter i1 a 0 ∧ s1.heap.IsTupleIter i2 b 0 ∧ (∀ c ∈ [z, TO, i1, i2], FpOk X pins H1 c) ∧ R xs ys H1
theorem eval_zip {e e2 : Expr} {ta : TA} {p pos : Pos} {pins : List (Addr × Obj)} {σ : L2.St} {H : Hp} {s : Shared} {R : List V → List V → Hp → Prop} (hg : Gl X "zip") (hm : X.mg "zip" = none) (ha : PA X [e, e2] ta) (I : Inv X pins σ H s)
    (h : ta σ H fun vs H1 => ∃ a b xs ys, vs = [V.ref a, V.ref b] ∧ SqT X.K H1 a xs ∧ SqT X.K H1 b ys ∧ R xs ys H1)
    (hs : starEach [e, e2] X.env = (false, eval e X.env) :: starEach [e2] X.env := by rfl) (hpl : (backTo pos (starEach [e2] X.env)).any (·.1) = false := by rfl) :
    wpAny (model X.prog X.w) X.A (eval (.Call (.Name "zip" p) [e, e2] [] pos) X.env) (AtZip X pins σ R) X.xe s := by
  refine Call_ (ld_blt I hg hm PyProof.Rows.boot_zip (PyProof.Rows.callWith_type1 (thn (ha.run pos pins s σ H _ I h) fun us s1 ⟨vs, H1, I1, r1, q1⟩ => ?_) hs hpl))
  obtain ⟨a, b, xs, ys, ex, qa, qb, q⟩ := q1
  subst ex
  cases r1 with
  | cons r rr =>
    cases rr with
    | cons r' rr =>
      cases rr
      cases r
      cases r'
      obtain ⟨its, rv, p1, _⟩ := I1.tuple qa
      obtain ⟨its2, rv2, p2, _⟩ := I1.tuple qb
      obtain ⟨o1, ho1, _⟩ := id p1
      obtain ⟨o2, ho2, _⟩ := id p2
      refine call_zipT (show s1.heap.IsTuple a its.toArray from p1) (show s1.heap.IsTuple b its2.toArray from p2) fun h' hz hTI hTO h1 h2 hsz hk => ?_
      have I2 : Inv X pins σ H1 { s1 with heap := h' } := I1.kept (t' := s1.toks) hk
      refine ⟨s1.heap.objs.size + 4, s1.heap.objs.size + 2, s1.heap.objs.size + 3, s1.heap.objs.size, s1.heap.objs.size + 1, a, b, _, _, xs, ys, H1, rfl, PySem.W.ktu_apart s1.heap.objs.size a b (Heap.lt_size ho1) (Heap.lt_size ho2), I2, qa, qb, hz, hTI, hTO, h1, h2, fun c hcm => ?_, q⟩
      have e' : c = s1.heap.objs.size + 4 ∨ c = s1.heap.objs.size + 3 ∨ c = s1.heap.objs.size ∨ c = s1.heap.objs.size + 1 := by simpa using hcm
      have hle : s1.heap.objs.size ≤ c := by
        rcases e' with z | z | z | z
        · rw [z]; exact Nat.le_add_right _ _
        · rw [z]; exact Nat.le_add_right _ _
        · rw [z]; exact Nat.le_refl _
        · rw [z]; exact Nat.le_add_right _ _
      exact I1.fpOk hle (I1.hok.fresh hle)
theorem pe_tupZip {e e2 : Expr} {ta : TA} {p p2 pos pos2 : Pos} (hc : X.calm = true) (hg : Gl X "tuple") (hm : X.mg "tuple" = none) (hg2 : Gl X "zip") (hm2 : X.mg "zip" = none) (ha : PA X [e, e2] ta)
    (hs : starEach [e, e2] X.env = (false, eval e X.env) :: starEach [e2] X.env := by rfl) (hpl : (backTo pos2 (starEach [e2] X.env)).any (·.1) = false := by rfl)
    (na : starEach [.Call (.Name "zip" p2) [e, e2] [] pos2] X.env = (false, eval (.Call (.Name "zip" p2) [e, e2] [] pos2) X.env) :: starEach [] X.env := by rfl) :
    PE X (.Call (.Name "tuple" p) [.Call (.Name "zip" p2) [e, e2] [] pos2] [] pos) (tTupZip X.K ta) := by
  refine ⟨fun pins s σ H Q I h => ?_⟩
  refine Call_ (ld_blt I hg hm boot_tuple (PyProof.Rows.callWith_type1 (args_cons (thn (eval_zip (R := fun xs ys H1 => xs.length = ys.length ∧ xs.length ≤ sizeLine ∧ ∀ (p : Addr) (ts : List Addr) H2, Same H1 H2 → H2 p = some (.tup (ts.map V.ref)) → ts.length = xs.length → Zs H2 xs ys ts → Q (.ref p) H2) hg2 hm2 ha I h hs hpl) fun x s1 hx => args_nil ?_) na) na))
  obtain ⟨z, TI, TO, i1, i2, a, b, x0, y0, xs, ys, H1, rfl, D, I1, qa, qb, hz, hTI, hTO, h1, h2, hf, hl, hn, q⟩ := hx
  refine call_tuple_zip (I1.ok.hd hc) D hl hn I1 qa qb hz hTI hTO h1 h2 hf fun s' H' ts I' sm hl' hz' => ?_
  have hno : H' s'.heap.objs.size = none := I'.hok.fresh (Nat.le_refl _)
  have sm2 := same_upd (o := .tup (ts.map V.ref)) hno
  exact ⟨.ref s'.heap.objs.size, upd H' s'.heap.objs.size (.tup (ts.map V.ref)), I'.laid (t' := s'.toks) (fun b o e => Heap.get?_push_of_some _ e) (Nat.le_refl _) (show ObjOk X.prog X.w _ _ _ (.tup (ts.map V.ref)) from ⟨by rw [List.length_map, hl']; exact hn, ts.map Value.ref, vals_refs ts, IsTup.new _ _⟩), rfl,
    q _ ts _ (sm.trans sm2) upd_same hl' (hz'.on sm2)⟩
end
end My

/-! My own rules: an operator between two instances of a class that has no reflected method for it. -/
namespace My
open PySem PySem.Spec PyProof.Rows L2
structure OpN (K : PySem.W.Frag) (C : Addr) (nm : String) (f : Addr) : Prop where
  sf : PySem.W.selfFirst K C = true
  ls : PySem.W.findIn K (.ref C) (PySem.dunder nm) = some (some (.ref f))
  lf : PySem.W.isFn K (.ref f) = true
section
variable {prog : Program} {w : World} {A : Around} {Ex : Value → Shared → Prop} {s : Shared} {K : PySem.W.Frag} {C f : Addr} {nm : String}
open PySem.W
theorem b1_ownN {x y : Addr} {odx ody : Option Obj} {ox oy : Obj} {Q : Value → Shared → Prop} (X : K.In s.heap) (O : OpN K C nm f) (I : InstAt s.heap x ox C odx) (J : InstAt s.heap y oy C ody)
    (h : wpAny (model prog w) A (call (.ref f) [.ref x, .ref y]) (PySem.W.CmpBack Q) Ex s) : wpAny (model prog w) A (binaryOp1 nm (.ref x) (.ref y)) (fun r s' => ∃ v, r = some v ∧ Q v s') Ex s := by
  obtain ⟨cd, rest, hcd, hm⟩ := ksp_first O.sf
  unfold binaryOp1
  refine wpAny_bind (I.type.here (wpAny_bind (J.type.here (wpAny_bind ((fills_K X hcd hm O.ls).here ?_)))))
  simp only [beq_self_eq_true, if_true]
  refine wpAny_bind (wpAny_pure ?_)
  simp only [Bool.and_false, Bool.false_eq_true, if_false, Bool.false_and]
  refine wpAny_bind (wpAny_pure ?_)
  simp only [Bool.false_eq_true, if_false]
  refine wpAny_bind (m := tryMethod (.ref x) _ (.ref y)) (wpAny_mono (ksp_try X I O.ls O.lf h) (fun r s' hr => ?_) fun _ _ e => e)
  obtain ⟨v, rfl, hq⟩ := hr
  exact wpAny_pure ⟨v, rfl, hq⟩
end
section
variable {X : Cx} {CX : CXT} {k : Nat} {C f : Addr} {fd : FuncData} {ps : List Str} {sp : Sp} {E : XK} {op : Operator}
theorem op_nn {nm : String} (hn : op.info.2 = nm) (O : OpN X.K C nm f) (F : FnOk X.prog X.w X.K X.mg X.base CX k f fd ps sp) (hr : Room k X.A) (hb : Binds X.K fd ps []) (hx : Passes CX X E) : OpR X (binaryOp op) (rOO C sp E) := by
  intro pins s σ H x y v u Q I rx ry h
  refine bin_of hn ?_
  obtain ⟨a, dx, fs, b, dy, gs, rfl, rfl, ea, eb, q⟩ := h
  obtain rfl : v = Value.ref a := rx
  obtain rfl : u = Value.ref b := ry
  obtain ⟨mA, J, _⟩ := ins_get I.hok ea
  obtain ⟨od, J, _⟩ := J.look
  obtain ⟨mB, J', _⟩ := ins_get I.hok eb
  obtain ⟨od', J', _⟩ := J'.look
  exact b1_ownN I.kIn O J J' (wpAny_mono (run_own (vs := [V.ref a, V.ref b]) F hr hb hx I (.cons rfl (.cons rfl .nil)) q) (fun _ _ z => back_of z) fun _ _ e => e)
theorem op_notInR {j : Nat} (hr : Room j X.A) : OpR X (compareOp .NotIn) (rNotInD X.K) := op_notInD (by have := hr.un; omega)
end
end My

/-! My own rule: several except clauses, each with a name of its own. -/
namespace My
open PySem PySem.Spec PyProof.Rows L2
/-- a clause: the class, the slot of its name, what its suite asks -/
abbrev Clause := Value × Nat × (Addr → Value → Option Addr → TS)
def wAsMany (K : PySem.W.Frag) (Wout : WX) (D : Ends) : List Clause → WX
  | [] => Wout
  | (c, i, ts) :: r => wAs K c i ts (wAsMany K Wout D r) D
inductive HdsAs (X : Cx) : List ExceptHandler → List Clause → Prop
  | nil : HdsAs X [] []
  | cons {x n : Str} {c : Value} {i : Nat} {ts : Addr → Value → Option Addr → TS} {b0 : Stmt} {suite : List Stmt} {np pos' : Pos} {hds : List ExceptHandler} {l : List Clause} (hi : X.N[i]? = some n) (hln : X.env.kindOf n = some .local) (hc : Names X x c)
      (hsu : ∀ (a : Addr) (oe : Obj) (cls : Value) (d : Option Addr) (pn : List (Addr × Obj)), Zc cls d oe → (∃ vs, oe.data = .fields vs) → PSs (X.suite a ((a, oe) :: pn)) (b0 :: suite) (ts a cls d)) (r : HdsAs X hds l) :
      HdsAs X (.ExceptHandler (some (.Name x np)) (some n) (b0 :: suite) pos' :: hds) ((c, i, ts) :: l)
section
variable {X : Cx} {body : List Stmt} {h0 : ExceptHandler} {hds : List ExceptHandler} {l : List Clause} {pos : Pos} {tb : WX → TS} {Wout : WX}
theorem ps_try_asMany (hs : X.stack = X.env :: X.outer) (hf : X.env.frame = some X.env.locals) (hN : X.N.Nodup) (tk : Takes X Wout)
    (hb : ∀ (W : WX) (pn : List (Addr × Obj)) (xe : Value → Shared → Prop), Takes (X.tr pn xe) W → PassesOwn (model X.prog X.w) X.A X.env xe → PSs (X.tr pn xe) body (tb W))
    (hh : HdsAs X (h0 :: hds) l) : PS X (.Try body (h0 :: hds) [] [] pos) (fun D σ H => tb (wAsMany X.K Wout D l) D σ H) := by
  refine ⟨fun pins s σ H D I h => ?_⟩
  have ok := I.ok
  have hfr : X.A.frames = some (X.env :: X.outer) := by rw [ok.frames, hs]
  refine wpAny_Try_except ?_
  refine wpAny_mono ((hb (wAsMany X.K Wout D l) (X.pn ++ pins) (fun e s1 => wpAny (model X.prog X.w) X.A (noteFrame e X.env) (fun _ s2 => wpAny (model X.prog X.w) X.A (setFlight e none) (fun _ s3 =>
    wpAny (model X.prog X.w) X.A (handleBy e X.env (h0 :: hds)) (SP X pins D) X.xe s3) X.xe s2) X.xe s1) (fun u s' xx => ?_) PassesOwn.looking).run [] s σ H D (I.toTry _) h) (fun f s1 hsp => ?_) (fun e s1 he => he)
  · obtain ⟨a, B, sI, pins', σ', H', cls, d, rfl, J', nb, up, sky, na, os, ag, w⟩ := xx
    have J : Inv X pins σ' H' sI := J'.ofTry ok
    have sky' : Sky B (X.env :: X.outer) a (Zc cls d) X.env.locals s'.heap := by rw [← hs]; exact sky
    show wpAny (model X.prog X.w) X.A (noteFrame (.ref a) X.env) _ _ _
    refine Sky.land Zc.steady hfr hf sky' fun h3 fl3 up3 => ?_
    have J3 : Inv X pins σ' H' { s' with heap := h3 } := J.landed nb fl3.1 (up.trans up3) os ag
    obtain ⟨oe3, vs3, he3, hz3, hd3⟩ := fl3.there
    have nfr : a ∉ frs (X.env :: X.outer) := fun hm => by
      obtain ⟨_, o', e', hnf⟩ := fl3.2.2.1.mem hm
      rw [he3] at e'; cases e'
      exact hnf _ hd3
    have nL : a ≠ X.env.locals := fun z => nfr (List.mem_filterMap.mpr ⟨X.env, List.mem_cons_self, by rw [hf, z]⟩)
    have nF : a ∉ X.fs := fun hm => by
      obtain ⟨e, he, q⟩ := List.mem_filterMap.mp hm
      exact nfr (List.mem_filterMap.mpr ⟨e, List.mem_cons_of_mem _ he, q⟩)
    have S3 := J3.suite he3 hd3 na nL nF
    have go : ∀ {hds' : List ExceptHandler} {l' : List Clause}, HdsAs X hds' l' → wAsMany X.K Wout D l' cls d σ' H' →
        wpAny (model X.prog X.w) X.A (handleBy (.ref a) X.env hds') (SP X pins D) X.xe { s' with heap := h3 } := by
      intro hds' l' hk
      induction hk with
      | nil =>
        intro w
        refine wpAny_handleBy_nil ?_
        obtain ⟨k1, k2, k3, oe, vs, T, oT, ts', he, hz, hd, h1, hr⟩ := id fl3
        unfold PySem.passOn
        refine wpAny_bind (wpAny_field he hd h1 ?_)
        rw [if_neg (show ¬ ((Value.ref T == Value.none) = true) from by simp)]
        have fin : wpAny (model X.prog X.w) X.A (setFlight (.ref a) X.env.frame) (fun _ s4 => wpAny (model X.prog X.w) X.A (throw (.ref a) : Sem Flow) (SP X pins D) X.xe s4) X.xe { s' with heap := h3 } := by
          rw [hf]
          refine HandSPX.setFlight_upZ fl3 fun h4 hh4 up4 => wpAny_throw (tk _ _ ?_)
          exact ⟨a, B, sI, pins, σ', H', cls, d, rfl, J, nb, (up.trans up3).trans up4, .inr (.inr (by rw [hs]; exact hh4)), na, os, ag, w⟩
        first
          | exact wpAny_bind (wpAny_pure (wpAny_bind fin))
          | exact wpAny_bind fin
      | @cons x n c i ts b0 suite np pos' hds2 l2 hi hln hc hsu r ih =>
        intro w
        obtain ⟨b, hb1, hyes, hno⟩ := w
        have hloc : Loc X.env.scope n := .inl hln
        refine wpAny_handleBy_cons (codeAny_handlers_test ?_) (by intro q; cases q)
        have LT : PySem.W.Looks (model X.prog X.w) h3 (typeOf (.ref a)) cls := fun A Q E s k q => wpAny_typeOf_ref (k _ _ he3) (by rw [hz3.1]; exact q)
        have LM := PySem.W.exm_one (M := model X.prog X.w) (J3.kIn) LT hb1
        have test : ∀ {Q : Value → Shared → Prop} {E : Value → Shared → Prop}, Q c { s' with heap := h3 } → wpAny (model X.prog X.w) (X.A.mark (some (.ref a))) (eval (.Name x np) X.env) Q E { s' with heap := h3 } := fun {Q E} q => by
          obtain ⟨hg, hdbg, hm | ⟨hm, hv, hnn⟩⟩ := hc
          · exact ld_glob (X := X.suite a ((a, oe3) :: (X.pn ++ pins))) S3 hg hm q hdbg
          · exact ld_blt (X := X.suite a ((a, oe3) :: (X.pn ++ pins))) S3 hg hm hv q hnn hdbg
        refine test (LM.here ?_)
        cases b with
        | true =>
          refine codeAny_handlers_suite_as ?_
          refine HandSPX.lands_againZ fl3 fun h4 fl4 up4 => ?_
          have J4 : Inv X pins σ' H' { s' with heap := h4 } := J.landed nb fl4.1 ((up.trans up3).trans up4) os ag
          obtain ⟨oe4, vs4, he4, hz4, hd4⟩ := fl4.there
          have S4 := J4.suite he4 hd4 na nL nF
          refine store_ok (X := X.suite a ((a, oe4) :: (X.pn ++ pins))) (v := .ref a) S4 hN hi hloc rfl (fun s5 S5 => ?_) (.inr hln)
          refine wpAny_mono ((hsu a oe4 cls d (X.pn ++ pins) hz4 ⟨_, hd4⟩).run [] s5 _ H' _ S5 (hyes rfl a na)) (fun f s6 hsp => ?_) (fun _ _ z => False.elim z)
          have end_ : ∀ {σ6 : L2.St} {H6 : Hp} {Q : Shared → Prop}, Inv (X.suite a ((a, oe4) :: (X.pn ++ pins))) [] σ6 H6 s6 → (∀ s7, Inv X pins (σ6.set i none) H6 s7 → Q s7) →
              wpAny (model X.prog X.w) X.A (do bindName X.env n .none; unbindBehindTheSuite X.env n pos') (fun _ s7 => Q s7) X.xe s6 := fun {σ6 H6 Q} S6 hq => gone_ok (S6.unsuite ok) hN hi hln hq
          cases f with
          | next =>
            obtain ⟨σ6, H6, S6, q6⟩ := hsp
            exact end_ S6 fun s7 J7 => ⟨_, _, J7, q6⟩
          | brk =>
            obtain ⟨σ6, H6, S6, q6⟩ := hsp
            exact end_ S6 fun s7 J7 => ⟨_, _, J7, q6⟩
          | cont =>
            obtain ⟨σ6, H6, S6, q6⟩ := hsp
            exact end_ S6 fun s7 J7 => ⟨_, _, J7, q6⟩
          | ret u =>
            obtain ⟨v6, σ6, H6, S6, r6, q6⟩ := hsp
            exact end_ S6 fun s7 J7 => ⟨_, _, _, J7, r6, q6⟩
        | false =>
          show wpAny _ X.A (handleBy (.ref a) X.env hds2) _ _ _
          exact ih (hno rfl)
    exact go hh w
  · cases f with
    | next =>
      obtain ⟨σ', H', J', q⟩ := hsp
      exact wpAny_execs_nil ⟨σ', H', J'.ofTry ok, q⟩
    | brk =>
      obtain ⟨σ', H', J', q⟩ := hsp
      exact ⟨σ', H', J'.ofTry ok, q⟩
    | cont =>
      obtain ⟨σ', H', J', q⟩ := hsp
      exact ⟨σ', H', J'.ofTry ok, q⟩
    | ret u =>
      obtain ⟨v, σ', H', J', r, q⟩ := hsp
      exact ⟨v, σ', H', J'.ofTry ok, r, q⟩
end
end My

/-! My own rules: o[k], o[k] = v, k in o, len(o) by the methods of an own class, also where they raise. -/
namespace My
open PySem PySem.Spec PyProof.Rows L2
/-- a method of the class for an operator -/
structure DunC (K : PySem.W.Frag) (C : Addr) (nm : Str) (f : Addr) : Prop where
  at_ : PySem.W.findIn K (.ref C) nm = some (some (.ref f))
  fn : PySem.W.isFn K (.ref f) = true
  fi : PySem.W.fnIn K f = true
  ns : PySem.W.noSeq K C = true
section
variable {X : Cx} {CX : CXT} {k : Nat} {C f : Addr} {fd : FuncData} {ps : List Str} {sp : Sp} {E : XK}
theorem passesAtOf {E : XK} (h : Passes CX X E) (σ : L2.St) : PassesAt CX X σ E := fun pins H s e s' I c => h pins σ H s e s' I c
theorem run_ownS {pins : List (Addr × Obj)} {s : Shared} {σ : L2.St} {H : Hp} {Q : VK} {us : List Value} {vs : List V} (F : FnOk X.prog X.w X.K X.mg X.base CX k f fd ps sp) (hr : Room k X.A) (hb : Binds X.K fd ps []) (hx : PassesAt CX X σ E)
    (I : Inv X pins σ H s) (r : Vals vs us) (h : sp vs H Q E) : wpAny (model X.prog X.w) X.A (call (.ref f) us) (EP X pins σ Q) X.xe s := by
  have hl : (us ++ []).length = ps.length := by
    rw [List.append_nil, ← F.len _ _ _ _ h]
    exact r.length.symm
  refine wpAny_call (codeAny_mono (F.run X.A X.stack s H ⟨us, []⟩ us vs _ E hr I.env0 (by
    have := hb s us I.kIn hl
    rw [List.append_nil] at this
    exact this) r h) fun r s' hq => ?_)
  cases r with
  | error e => exact hx pins H s e s' I hq
  | ok fl =>
    cases fl with
    | ret w => exact I.after hq
    | next => exact False.elim hq
    | brk => exact False.elim hq
    | cont => exact False.elim hq
theorem run_own1S {pins : List (Addr × Obj)} {s : Shared} {σ : L2.St} {H : Hp} {Q : VK} {us : List Value} {vs : List V} (F : FnOk X.prog X.w X.K X.mg X.base CX k f fd ps sp) (hr : Room (k + 1) X.A) (hb : Binds X.K fd ps []) (hx : PassesAt CX X σ E)
    (I : Inv X pins σ H s) (r : Vals vs us) (h : sp vs H Q E) : wpAny (model X.prog X.w) X.A.in1 (call (.ref f) us) (EP X pins σ Q) X.xe s := by
  have hl : (us ++ []).length = ps.length := by
    rw [List.append_nil, ← F.len _ _ _ _ h]
    exact r.length.symm
  refine wpAny_call (codeAny_mono (F.run X.A.in1 X.stack s H ⟨us, []⟩ us vs _ E hr.in1 I.env0.in1 (by
    have := hb s us I.kIn hl
    rw [List.append_nil] at this
    exact this) r h) fun r s' hq => ?_)
  cases r with
  | error e => exact hx pins H s e s' I hq
  | ok fl =>
    cases fl with
    | ret w => exact I.after hq
    | next => exact False.elim hq
    | brk => exact False.elim hq
    | cont => exact False.elim hq
/-! ### o[k] -/
def tGetO (C : Addr) (sp : Sp) (E : L2.St → XK) (ta tb : TE) : TE := fun σ H Q => ta σ H fun x H1 => tb σ H1 fun y H2 => ∃ a dx fs, x = V.ref a ∧ H2 a = some (.ins C dx fs) ∧ sp [.ref a, y] H2 Q (E σ)
theorem pe_getO {E : L2.St → XK} {a b : Expr} {ta tb : TE} {pos : Pos} (D : DunC X.K C "__getitem__" f) (F : FnOk X.prog X.w X.K X.mg X.base CX k f fd ps sp) (hr : Room (k + 1) X.A) (hb : Binds X.K fd ps []) (hx : ∀ σ, PassesAt CX X σ (E σ)) (pa : PE X a ta) (pb : PE X b tb)
    (hs : ∀ (x : Addr) (u : Value), subscripted b true (.ref x) u = runValue (.builtin "lifetime.subscript" ⟨[.ref x, u], []⟩)) : PE X (.Subscript a b pos) (tGetO C sp E ta tb) := by
  refine ⟨fun pins s σ H Q I h => ?_⟩
  refine Subscript_ (binT pa pb I (R := fun x y H2 => ∃ a dx fs, x = V.ref a ∧ H2 a = some (.ins C dx fs) ∧ sp [.ref a, y] H2 Q (E σ)) h fun v u s2 x y H2 I2 rx ry q => ?_)
  obtain ⟨p, dx, fs, rfl, ea, q⟩ := q
  obtain rfl : v = Value.ref p := rx
  obtain ⟨mA, J, _⟩ := ins_get I2.hok ea
  obtain ⟨od, J, _⟩ := J.look
  obtain ⟨m, hF⟩ := I2.fr
  exact PySem.W.sub_K hF I2.ok.mod.kin J D.at_ D.fi D.fn (run_own1S (vs := [V.ref p, y]) F hr hb (hx σ) I2 (.cons rfl (.cons ry .nil)) q) (hs p u)
/-! ### k in o -/
def rInI (C : Addr) (sp : Sp) (E : XK) (neg : Bool) : R2 := fun x y H Q => ∃ a dx fs, y = V.ref a ∧ H a = some (.ins C dx fs) ∧ sp [.ref a, x] H (fun v H' => ∃ b, v = .bl b ∧ Q (.bl (if neg then !b else b)) H') E
theorem op_inO (D : DunC X.K C "__contains__" f) (F : FnOk X.prog X.w X.K X.mg X.base CX k f fd ps sp) (hr : Room k X.A) (hb : Binds X.K fd ps []) (hx : Passes CX X E) : OpR X (compareOp .In) (rInI C sp E false) := by
  intro pins s σ H x y v u Q I rx ry h
  obtain ⟨p, dx, fs, rfl, ea, q⟩ := h
  obtain rfl : u = Value.ref p := ry
  obtain ⟨mA, J, _⟩ := ins_get I.hok ea
  obtain ⟨od, J, _⟩ := J.look
  obtain ⟨m, hF⟩ := I.fr
  refine PySem.W.in_K hF I.ok.mod.kin J D.at_ D.fn (wpAny_mono (run_ownS (vs := [V.ref p, x]) F hr hb (passesAtOf hx σ) I (.cons rfl (.cons rx .nil)) q) (fun r s' hr' => ?_) fun _ _ e => e)
  obtain ⟨z, H2, I2, rz, b, ez, q2⟩ := hr'
  subst ez
  obtain rfl : r = Value.bool b := rz
  exact wpAny_truthy_bool ⟨.bl b, H2, I2, rfl, q2⟩
theorem op_notInO (D : DunC X.K C "__contains__" f) (F : FnOk X.prog X.w X.K X.mg X.base CX k f fd ps sp) (hr : Room k X.A) (hb : Binds X.K fd ps []) (hx : Passes CX X E) : OpR X (compareOp .NotIn) (rInI C sp E true) := by
  intro pins s σ H x y v u Q I rx ry h
  obtain ⟨p, dx, fs, rfl, ea, q⟩ := h
  obtain rfl : u = Value.ref p := ry
  obtain ⟨mA, J, _⟩ := ins_get I.hok ea
  obtain ⟨od, J, _⟩ := J.look
  obtain ⟨m, hF⟩ := I.fr
  refine PySem.W.notIn_K hF I.ok.mod.kin J D.at_ D.fn (wpAny_mono (run_ownS (vs := [V.ref p, x]) F hr hb (passesAtOf hx σ) I (.cons rfl (.cons rx .nil)) q) (fun r s' hr' => ?_) fun _ _ e => e)
  obtain ⟨z, H2, I2, rz, b, ez, q2⟩ := hr'
  subst ez
  obtain rfl : r = Value.bool b := rz
  exact wpAny_truthy_bool ⟨.bl (!b), H2, I2, rfl, q2⟩
/-! ### len(o) -/
def rLenO (C : Addr) (sp : Sp) (E : XK) : List V → Hp → VK → Prop := fun xs H Q => ∃ a dx fs, xs = [V.ref a] ∧ H a = some (.ins C dx fs) ∧ sp [.ref a] H (fun v H' => ∃ n : Int, v = .int n ∧ 0 ≤ n ∧ n < 2 ^ 63 ∧ Q (.int n) H') E
theorem call_lenO (D : DunC X.K C "__len__" f) (F : FnOk X.prog X.w X.K X.mg X.base CX k f fd ps sp) (hr : Room (k + 1) X.A) (hb : Binds X.K fd ps []) (hx : Passes CX X E) : CallR X (.builtin "len") (rLenO C sp E) := by
  intro pins s σ H xs us Q I r h
  obtain ⟨p, dx, fs, rfl, ea, q⟩ := h
  obtain ⟨u, rfl, rx⟩ := vals1 r
  obtain rfl : u = Value.ref p := rx
  obtain ⟨mA, J, _⟩ := ins_get I.hok ea
  obtain ⟨od, J, _⟩ := J.look
  obtain ⟨m, hF⟩ := I.fr
  refine PySem.W.len_K hF I.ok.mod.kin J D.at_ D.fn (wpAny_mono (run_own1S (vs := [V.ref p]) F hr hb (passesAtOf hx σ) I (.cons rfl .nil) q) (fun r s' hr' => ?_) fun _ _ e => e)
  obtain ⟨z, H2, I2, rz, n, ez, n0, n1, q2⟩ := hr'
  subst ez
  obtain ⟨t, rfl⟩ := rz
  exact ⟨⟨n0, n1⟩, .int n, H2, I2.tok _, ⟨_, rfl⟩, q2⟩
/-! ### o[k] = v -/
def gSetO (C : Addr) (sp : Sp) (E : L2.St → XK) (to ti : TE) : TG := fun v σ H Q => to σ H fun o H1 => ti σ H1 fun i H2 => ∃ a dx fs, o = V.ref a ∧ H2 a = some (.ins C dx fs) ∧ sp [.ref a, i, v] H2 (fun _ H3 => Q σ H3) (E σ)
theorem pg_setO {E : L2.St → XK} {o i : Expr} {to ti : TE} {pos : Pos} (D : DunC X.K C "__setitem__" f) (F : FnOk X.prog X.w X.K X.mg X.base CX k f fd ps sp) (hr : Room k X.A) (hb : Binds X.K fd ps []) (hx : ∀ σ, PassesAt CX X σ (E σ)) (ho : PE X o to) (hi : PE X i ti)
    (ha : ∀ v, assign (.Subscript o i pos) X.env v = (do
      let ov ← holding [v] (eval o X.env)
      let iv ← holding [v, ov] (eval i X.env)
      standAt pos
      holding [v, ov, iv] (setItem ov iv v)
      release [v, ov, iv] []) := by intro _; rfl) : PG X (.Subscript o i pos) (gSetO C sp E to ti) := by
  refine ⟨fun pins s σ H v u Q I r h => ?_⟩
  rw [ha]
  refine wpAny_bind (wpAny_holding (thn (ho.run pins s σ H _ I h) fun ov s1 ⟨x, H1, I1, r1, q1⟩ => ?_))
  refine wpAny_bind (wpAny_holding (thn (hi.run pins s1 σ H1 _ I1 q1) fun iv s2 ⟨y, H2, I2, r2, q2⟩ => ?_))
  obtain ⟨p, dx, fs, rfl, ea, q⟩ := q2
  obtain rfl : ov = Value.ref p := r1
  obtain ⟨mA, J, _⟩ := ins_get I2.hok ea
  obtain ⟨od, J, _⟩ := J.look
  obtain ⟨m, hF⟩ := I2.fr
  refine wpAny_bind (wpAny_standAt (wpAny_bind (wpAny_holding (PySem.W.ksp_setItem hF I2.ok.mod.kin J D.ns D.at_ D.fn (wpAny_mono (run_ownS (vs := [V.ref p, y, v]) F hr hb (hx σ) I2 (.cons rfl (.cons r2 (.cons r .nil))) q) (fun r s3 hr' => ?_) fun _ _ e => e)))))
  obtain ⟨z, H3, I3, rz, q3⟩ := hr'
  exact wpAny_release ⟨σ, H3, I3, q3⟩
end
end My

/-! My own rules: a dict's display that begins with another dict; tuple(d) of a dict. -/
namespace My
open PySem PySem.Spec PyProof.Rows L2
section
variable {prog : Program} {w : World} {K : Type} [DecidableEq K] {knd : KeyKind prog w K} {A : Around} {E : Value → Shared → Prop} {s : Shared}
/-- one entry laid by the display's merge -/
theorem put_kv {a : Addr} {ps : List (K × Value)} {x : K} {u y : Value} {R : Unit → Shared → Prop} (hx : knd.is x u = true) (D : s.heap.DictOf knd a ps) (hl : ps.length ≤ sizeLine)
    (q : ∀ g, g.DictOf knd a (stored ps x y) → Heap.SameBut a s.heap g → R () { s with heap := g }) : wpAny (model prog w) A (dictPut a (knd.hash x) u y) R E s := by
  obtain ⟨ob, en, ep, e1, e2, e3, e4, e5, e6⟩ := D
  have len : en.size ≤ sizeLine := by
    have t := e5.length
    rw [Array.length_toList] at t
    omega
  have same : (en.findIdx? fun z => knd.is x z.key) = ps.findIdx? fun z => decide (z.1 = x) := by
    have t := e5.findIdx x
    obtain ⟨l⟩ := en
    simpa using t
  unfold dictPut
  refine wpAny_bind (wpAny_dictFind_of hx e1 e3 e4 ?_)
  cases hi : en.findIdx? fun z => knd.is x z.key with
  | none =>
    have out : x ∉ ps.map (·.1) := not_mem_of_findIdx_none (same ▸ hi)
    have none' : ¬ (ps.any fun z => decide (z.1 = x)) = true := fun t => by
      obtain ⟨z, z1, z2⟩ := List.any_eq_true.mp t
      exact out (List.mem_map.mpr ⟨z, z1, of_decide_eq_true z2⟩)
    refine wpAny_updateDictKeys (hz := len) e1 e3 (q _ ?_ (Heap.SameBut.update ..))
    refine ⟨_, _, ep + 1, Heap.get?_update_self _ e1 (Obj.isFreed_of_dict (Obj.data_mapDictKeys e3 _)), e2.mapDictKeys _, Obj.data_mapDictKeys e3 _, e4.push hx _, ?_, ?_⟩
    · rw [stored, if_neg none']
      have t := e5.append hx (knd.hash x) y
      obtain ⟨l⟩ := en
      simpa using t
    · rw [stored, if_neg none', List.map_append]
      refine List.nodup_append.mpr ⟨e6, by simp, fun c hc b hb => ?_⟩
      simp only [List.map_cons, List.map_nil, List.mem_singleton] at hb
      rw [hb]
      exact fun t => out (t ▸ hc)
  | some i =>
    have there := any_of_findIdx_some (same ▸ hi)
    have hi' : (en.toList.findIdx? fun z => knd.is x z.key) = some i := by
      rw [← hi]
      obtain ⟨l⟩ := en
      simp
    refine wpAny_updateDict e1 e3 (q _ ?_ (Heap.SameBut.update ..))
    refine ⟨_, _, ep, Heap.get?_update_self _ e1 (Obj.isFreed_of_dict (Obj.data_mapDict e3 _)), e2.mapDict _, Obj.data_mapDict e3 _, e4.modify _ _, ?_, ?_⟩
    · rw [stored, if_pos there]
      have t := e5.modify e6 hi' y
      obtain ⟨l⟩ := en
      simpa using t
    · rw [stored, if_pos there, keys_map_store]
      exact e6
theorem not_ref {P : Program} {W : World} {T : Type} [DecidableEq T] {kd : KeyKind P W T} {en : Array DictEntry} (h : KeysOf kd en) : ∀ z ∈ en.toList, ∀ a, z.key ≠ .ref a := fun z hz a e => by
  obtain ⟨x, hx, _⟩ := h z (by simpa using hz)
  have t := kd.byValue x z.key hx
  rw [e] at t
  cases t
/-- the display's merge of a whole dict into another -/
theorem merge_kv {a b : Addr} {ps qs : List (K × Value)} {R : Unit → Shared → Prop} (hab : a ≠ b) (hb : (b == sysModules) = false) (Da : s.heap.DictOf knd a ps) (Db : s.heap.DictOf knd b qs)
    (hl : ps.length + qs.length ≤ sizeLine) (q : ∀ g, g.DictOf knd a (merged ps qs) → Heap.SameBut a s.heap g → R () { s with heap := g }) :
    wpAny (model prog w) A (mergeMapping a (.ref b) false) R E s := by
  obtain ⟨oa, ea, epa, a1, a2, a3, a4, a5, a6⟩ := id Da
  obtain ⟨ob, eb, epb, b1, b2, b3, b4, b5, b6⟩ := id Db
  have lenb : eb.size = qs.length := by rw [← b5.length, Array.length_toList]
  unfold mergeMapping
  refine wpAny_bind (wpAny_isInstance Db.typeIs isSubtype_dict_dict ?_)
  dsimp only
  simp only [if_true]
  refine wpAny_bind (wpAny_specialOf Db.typeIs F.slot_dict_iter.lookup (wpAny_bind (wpAny_pure ?_)))
  rw [show (some (Value.builtin "dict.__iter__") == some (Value.builtin "dict.__iter__")) = true from beq_self_eq_true _]
  simp only [hb, Bool.false_eq_true, if_false]
  refine wpAny_bind (wpAny_dictEntries a1 a3 ?_)
  have main : ∀ s0 : Shared, s0 = s → wpAny (model prog w) A (do
      let l ← dictEntries b
      let e0 ← dictEpoch b
      forIn (List.range l.size) PUnit.unit fun i (_ : PUnit) => (do
          let l2 ← dictEntries b
          match l2[i]? with
            | some z => do
              holding [z.key, z.val] (dictPut a z.hash z.key z.val)
              let e2 ← dictEpoch b
              if (e2 != e0) = true then do
                  (unsupported "dict.changed-during-merge" : Sem PUnit)
                  pure (ForInStep.yield PUnit.unit)
                else pure (ForInStep.yield PUnit.unit)
            | _ => do
              (unsupported "dict.changed-during-merge" : Sem PUnit)
              pure (ForInStep.yield PUnit.unit) : Sem (ForInStep PUnit))
      pure ()) R E s0 := by
    intro s0 e0
    rw [e0]
    clear e0 s0
    refine wpAny_bind (wpAny_dictEntries b1 b3 ?_)
    refine wpAny_bind (wpAny_dictEpoch b1 b3 ?_)
    refine wpAny_bind ?_
    rw [List.range_eq_range']
    refine wpAny_forIn_list _ (fun left _ t => ∃ g n, t = { s with heap := g } ∧ left = List.range' n (eb.size - n) ∧ n ≤ eb.size ∧ g.DictOf knd a (merged ps (qs.take n)) ∧ g.get? b = some ob ∧ Heap.SameBut a s.heap g)
      _ ?_ ?_ _ _ ⟨s.heap, 0, rfl, by simp, Nat.zero_le _, by simpa [merged] using Da, b1, Heap.SameBut.refl _ _⟩
    · rintro n0 left _ t ⟨g, n, rfl, hr, hn, Dg, bg, sg⟩
      have lt : n < eb.size := by
        refine Nat.lt_of_le_of_ne hn fun e => ?_
        rw [e, Nat.sub_self] at hr
        cases hr
      have hr2 : n0 :: left = n :: List.range' (n + 1) (eb.size - (n + 1)) := by
        rw [hr, show eb.size - n = (eb.size - (n + 1)) + 1 from by omega, List.range'_succ]
      injection hr2 with r1 r2
      subst r1
      refine wpAny_bind (wpAny_dictEntries bg b3 ?_)
      rw [Array.getElem?_eq_getElem lt]
      have ltq : n0 < qs.length := by omega
      obtain ⟨⟨x, y⟩, hq⟩ : ∃ z, qs[n0]? = some z := ⟨qs[n0]'ltq, List.getElem?_eq_getElem _⟩
      obtain ⟨hk, hv⟩ := b5.get? (e := eb[n0]) (by simp [lt]) hq
      obtain ⟨x2, hk2, hh⟩ := b4 eb[n0] (Array.getElem_mem lt)
      have ex : x2 = x := knd.inj _ _ _ hk2 hk
      subst ex
      have few : (merged ps (qs.take n0)).length ≤ sizeLine := by
        have t1 := merged_length_le ps (qs.take n0)
        rw [List.length_take] at t1
        omega
      show wpAny _ _ (holding [eb[n0].key, eb[n0].val] (dictPut a eb[n0].hash eb[n0].key eb[n0].val) >>= _) _ _ _
      rw [hh, hv]
      refine wpAny_bind (wpAny_holding (put_kv hk Dg few fun g2 D2 s2 => ?_))
      have bg2 : g2.get? b = some ob := (s2.2 b (Ne.symm hab)).trans bg
      refine wpAny_bind (wpAny_dictEpoch bg2 b3 ?_)
      rw [if_neg (by simp)]
      exact wpAny_pure ⟨g2, n0 + 1, rfl, r2, lt, by rw [merged_take_succ ps qs n0 (x2, y) hq]; exact D2, bg2, sg.trans s2⟩
    · rintro _ t ⟨g, n, rfl, hr, hn, Dg, bg, sg⟩
      have en : n = eb.size := by
        refine Nat.le_antisymm hn (Nat.le_of_not_lt fun lt => ?_)
        rw [show eb.size - n = (eb.size - (n + 1)) + 1 from by omega, List.range'_succ] at hr
        cases hr
      refine wpAny_pure (q g ?_ sg)
      rw [en, lenb, List.take_length] at Dg
      exact Dg
  split
  · refine wpAny_bind (wpAny_dictEntries b1 b3 ?_)
    refine wpAny_bind ?_
    rw [← Array.forIn_toList]
    refine wpAny_forIn_list _ (fun left _ t => t = s ∧ ∀ z ∈ left, ∀ c, z.key ≠ .ref c) _ ?_ ?_ _ _ ⟨rfl, not_ref b4⟩
    · rintro z left _ t ⟨rfl, hz⟩
      split
      · rename_i c hc
        exact absurd hc (hz z List.mem_cons_self c)
      · exact wpAny_pure ⟨rfl, fun z2 h2 => hz z2 (List.mem_cons_of_mem _ h2)⟩
    · rintro _ t ⟨ht, _⟩
      exact main t ht
  · exact main _ rfl
end
section
variable {prog : Program} {w : World} {K : Type} [DecidableEq K] {knd : KeyKind prog w K} {A : Around} {E : Value → Shared → Prop} {s : Shared}
theorem display_kv {m k v : Sem Value} {R : Value → Shared → Prop}
    (h : wpAny (model prog w) A m (fun x s1 => ∃ b qs, x = .ref b ∧ s.heap.objs.size ≠ b ∧ (b == sysModules) = false ∧ s1.heap.DictOf knd s.heap.objs.size [] ∧ s1.heap.DictOf knd b qs ∧ qs.length < sizeLine ∧
      ∀ g, g.DictOf knd s.heap.objs.size qs → Heap.SameBut s.heap.objs.size s1.heap g →
        wpAny (model prog w) A k (fun y s2 => wpAny (model prog w) A v (fun z s3 => s.heap.objs.size ≠ g.objs.size ∧ (g.objs.size == sysModules) = false ∧ s3.heap.DictOf knd g.objs.size [] ∧ ∃ rs, s3.heap.DictOf knd s.heap.objs.size rs ∧ rs.length < sizeLine ∧ ∃ x0, knd.is x0 y = true ∧
          ∀ g2 g3, g2.DictOf knd g.objs.size [(x0, z)] → Heap.SameBut g.objs.size s3.heap g2 → g3.DictOf knd s.heap.objs.size (stored rs x0 z) → Heap.SameBut s.heap.objs.size g2 g3 →
            R (.ref s.heap.objs.size) { s3 with heap := g3, toks := s3.toks + 1 }) E s2) E { s1 with heap := g.push { cls := .type "dict", data := .dict #[] } }) E
      { s with heap := s.heap.push { cls := .type "dict", data := .dict #[] } }) :
    wpAny (model prog w) A (dictDisplay [(none, m), (some k, v)]) R E s := by
  unfold dictDisplay
  dsimp only
  simp only [List.forIn_cons, List.forIn_nil, List.isEmpty_nil, if_true, pure_bind, bind_pure_comp, bind_assoc]
  refine wpAny_bind (wpAny_alloc ?_)
  refine wpAny_bind (wpAny_holding (wpAny_mono h (fun x s1 h1 => ?_) fun _ _ e => e))
  obtain ⟨b, qs, rfl, hb, hsm, d0, db, hl, h1⟩ := h1
  refine wpAny_bind (wpAny_map (wpAny_onRaise (wpAny_tryCatch (wpAny_onRaise (wpAny_holding (merge_kv (knd := knd) hb hsm d0 db ?_ fun g dg sg => ?_))))))
  · rw [List.length_nil]; omega
  have nd : (qs.map (·.1)).Nodup := let ⟨_, _, _, _, _, _, _, _, hn⟩ := db; hn
  rw [merged_nil_of_nodup qs nd] at dg
  have h2 := h1 g dg sg
  clear h1
  dsimp only
  simp only [List.nil_append, List.length_cons, List.length_nil, show ((0 + 1 : Nat) == 17) = false from rfl, Bool.false_eq_true, if_false, pure_bind, List.isEmpty_cons]
  refine wpAny_bind (wpAny_bind (wpAny_holding (wpAny_subDict (knd := knd) (show 1 ≤ 15 from by decide) (evalPairs_cons (wpAny_mono h2 (fun y s2 h3 => wpAny_mono h3 (fun z s3 h4 => evalPairs_nil ?_) fun _ _ e => e) fun _ _ e => e)))))
  obtain ⟨ne, lo, d3, rs, p3, hr, x0, hx, fin⟩ := h4
  refine ⟨[(x0, z)], ⟨hx, rfl, True.intro⟩, d3, fun g2 d2 s2' => wpAny_map (wpAny_onRaise (wpAny_holding (merge_kv (knd := knd) (ps := rs) (qs := [(x0, z)]) ne lo (p3.sameBut s2' ne) d2 ?_ fun g3 d3' s3' => wpAny_pure (fin g2 g3 d2 s2' d3' s3'))))⟩
  rw [List.length_singleton]
  omega
end
section
variable {X : Cx}
/-- {**d, k: v}: p the new dict, q the one of the pair behind it -/
def tDispD (td tk tv : TE) : TE := fun σ H Q => ∀ p, H p = none → td σ (upd H p (.dK [])) fun x H1 => ∃ a kvs, x = .ref a ∧ H1 a = some (.dK kvs) ∧ a ≠ p ∧ H1 p = some (.dK []) ∧ kvs.length < sizeLine ∧
  ∀ q, (upd H1 p (.dK kvs)) q = none → tk σ (upd (upd H1 p (.dK kvs)) q (.dK [])) fun y H2 => tv σ H2 fun z H3 => H3 p = some (.dK kvs) ∧ H3 q = some (.dK []) ∧ ∃ k, y = kV k ∧ Q (.ref p) (upd (upd H3 q (.dK [(k, z)])) p (.dK (putK kvs k z)))
theorem pe_dispD {d k v : Expr} {pos : Pos} {td tk tv : TE} (hd : PE X d td) (hk : PE X k tk) (hv : PE X v tv) : PE X (.Dict [none, some k] [d, v] pos) (tDispD td tk tv) := by
  refine ⟨fun pins s σ H Q I h => ?_⟩
  have hn := I.hok.fresh (Nat.le_refl s.heap.objs.size)
  have I1 := I.laid (a := s.heap.objs.size) (o := .dK []) (h' := s.heap.push { cls := .type "dict", data := .dict #[] }) (t' := s.toks) (fun _ _ q => Heap.get?_push_of_some _ q) (Nat.le_refl _) (dk_empty s.heap I.big)
  rw [arm_eval_Dict]
  refine wpAny_bind (wpAny_standAt ?_)
  show wpAny _ _ (dictDisplay [(none, do let x ← eval d X.env; standAt pos; pure x), (some (eval k X.env), do let x ← eval v X.env; standAt pos; pure x)]) _ _ _
  refine display_kv (knd := mixKind X.prog X.w) (wpAny_bind (thn (hd.run pins _ σ _ _ I1 (h _ hn)) fun u s1 ⟨x, H1, I2, rel, a, kvs, ex, ea, hap, ep, hl, q⟩ => wpAny_bind (wpAny_standAt (wpAny_pure ?_))))
  subst ex
  cases rel
  obtain ⟨z1, lo, vs, r1, da⟩ := dk_of I2.hok ea
  obtain ⟨z2, lo2, vs2, r2, dp⟩ := dk_of I2.hok ep
  cases r2
  refine ⟨a, vs, rfl, Ne.symm hap, lo, dp, da, by rw [← r1.length]; exact hl, fun g dg sg => ?_⟩
  have hz : kvs.length ≤ sizeLine := Nat.le_of_lt hl
  have stays : ∀ {g : Heap} {b : Addr} {ps : List (Key × Value)}, g.DictOf (mixKind X.prog X.w) b ps → ∃ q, g.get? b = some q := fun t => let ⟨q, _, _, hq, _⟩ := t; ⟨q, hq⟩
  have I3 : Inv X pins σ (upd H1 s.heap.objs.size (.dK kvs)) { s1 with heap := g, toks := s1.toks } := d_write I2 (by rw [ep]; exact True.intro) sg (stays dg) (dk_new hz lo2 r1 dg)
  have hn2 := I3.hok.fresh (Nat.le_refl g.objs.size)
  have I4 := I3.laid (a := g.objs.size) (o := .dK []) (h' := g.push { cls := .type "dict", data := .dict #[] }) (t' := s1.toks) (fun _ _ q => Heap.get?_push_of_some _ q) (Nat.le_refl _) (dk_empty g I3.big)
  refine thn (hk.run pins _ σ _ _ I4 (q _ hn2)) fun y s2 ⟨y', H2, I5, ry, q2⟩ => wpAny_bind (thn (hv.run pins s2 σ H2 _ I5 q2) fun w' s3 ⟨z', H3, I6, rz, hp, hq, k0, ek, q3⟩ => wpAny_bind (wpAny_standAt (wpAny_pure ?_)))
  subst ek
  obtain ⟨z4, lo4, vs4, r4, d4⟩ := dk_of I6.hok hq
  cases r4
  obtain ⟨z5, lo5, vs5, r5, d5⟩ := dk_of I6.hok hp
  have ne : s.heap.objs.size ≠ g.objs.size := fun e => by
    rw [← e, upd_same] at hn2
    cases hn2
  have hz5 : vs5.length < sizeLine := by rw [← r5.length]; exact hl
  refine ⟨ne, lo4, d4, vs5, d5, hz5, k0, kV_is ry, fun g2 g3 e2 t2 e3 t3 => ?_⟩
  have I7 : Inv X pins σ (upd H3 g.objs.size (.dK [(k0, z')])) { s3 with heap := g2, toks := s3.toks } :=
    d_write I6 (by rw [hq]; exact True.intro) t2 (stays e2) (dk_new (by rw [List.length_singleton, sizeLine_eq]; omega) lo4 (.cons ⟨rfl, rz⟩ .nil) e2)
  have I8 : Inv X pins σ (upd (upd H3 g.objs.size (.dK [(k0, z')])) s.heap.objs.size (.dK (putK kvs k0 z'))) { s3 with heap := g3, toks := s3.toks + 1 } := by
    have len := length_putK kvs k0 z'
    have t := d_write (t' := s3.toks + 1) I7 (by rw [upd_ne ne, hp]; exact True.intro) t3 (stays e3) (dk_new (by omega) lo5 (r5.put k0 rz) e3)
    exact t
  exact ⟨.ref s.heap.objs.size, _, I8, rfl, q3⟩
end
section
open PySem.W
variable {prog : Program} {w : World} {A : Around} {E : Value → Shared → Prop} {s : Shared} {T : String} {r d : Addr} {n : Nat} {P : Nat → Value → Prop} {OK : Heap → Prop}
/-- what a source of keys gives, gathered -/
theorem gather_src {R : List Value → Shared → Prop} (C : KdlSrc prog w T r d n P OK) (hh : A.handled = none) (ok : OK s.heap) (hn : n ≤ sizeLine)
    (q : ∀ (g : Heap) (tk : Nat) (got : Array Value), (∀ b o, s.heap.get? b = some o → g.get? b = some o) → ItemsOf P got n → R got.toList { s with heap := g, toks := tk }) : wpAny (model prog w) A (collect (.ref r)) R E s := by
  unfold collect
  refine wpAny_bind (wpAny_runValue (codeAny_builtin F.entry_proto_collect ?_))
  rw [Around.under_plainId F.plain_proto_collect _]
  show wpAny _ A.in1 (newList [] >>= fun l => again (.builtin "list.__iadd__" ⟨[l, .ref r], []⟩)) _ _ s
  refine wpAny_bind (wpAny_newObj_type (wpAny_pure ⟨plainId_quiet F.plain_list_iadd _, codeAny_builtin F.entry_list_iadd ?_⟩))
  rw [Around.under_plainId F.plain_list_iadd _]
  show wpAny _ A.in1 (Builtin.List.listExtendWith (.ref s.heap.objs.size) (.ref r) (.ref s.heap.objs.size)) _ _ _
  have lt := C.there _ ok
  have at0 : (s.heap.push { cls := .type "list", data := .seq ([] : List Value).toArray }).get? s.heap.objs.size = some { cls := .type "list", data := .seq #[] 0 } := Heap.get?_push_size _ rfl
  refine wpAny_mono (kdl_extend (A := A) (s := { s with heap := s.heap.push { cls := .type "list", data := .seq ([] : List Value).toArray } })
    (R := fun z t => z = .ok (.ret (.ref s.heap.objs.size)) ∧ ∃ (g : Heap) (tk : Nat) (got : Array Value) (c : Nat), t = { s with heap := g, toks := tk } ∧ (∀ b o, s.heap.get? b = some o → g.get? b = some o) ∧
      g.get? s.heap.objs.size = some { cls := .type "list", dict := none, data := .seq got c, slots := #[] } ∧ ItemsOf P got n)
    C hh (C.keep _ _ ok fun b _ o e => Heap.get?_push_of_some _ e) s.heap.objs.size (Nat.ne_of_gt lt.1) (Nat.ne_of_gt lt.2) _ 0 at0
    (fun g tk got c hk e hi => ⟨rfl, g, tk, got, c, rfl, fun b o u => hk b o (Nat.ne_of_lt (Heap.lt_size u)) (Heap.get?_push_of_some _ u), e, hi⟩) hn) (fun fin t h => ?_) fun e t h => ?_
  · cases fin with
    | done f =>
      obtain ⟨e, g, tk, got, c, rfl, hk, hS, hi⟩ := h
      cases e
      show wpAny _ A (load s.heap.objs.size >>= _) _ _ _
      exact wpAny_bind (wpAny_load hS (wpAny_pure (q g tk got hk hi)))
    | again c' =>
      refine ⟨h.1, codeAny_mono h.2 fun z t' h' => ?_⟩
      obtain ⟨rfl, g, tk, got, c, rfl, hk, hS, hi⟩ := h'
      show wpAny _ A (load s.heap.objs.size >>= _) _ _ _
      exact wpAny_bind (wpAny_load hS (wpAny_pure (q g tk got hk hi)))
  · exact absurd h.1 (by simp)
theorem new_tup_src {R : Value → Shared → Prop} (C : KdlSrc prog w T r d n P OK) (hh : A.handled = none) (ok : OK s.heap) (hn : n ≤ sizeLine)
    (q : ∀ (g : Heap) (tk : Nat) (got : Array Value), (∀ b o, s.heap.get? b = some o → g.get? b = some o) → ItemsOf P got n → R (.ref g.objs.size) { s with heap := g.push { cls := .type "tuple", data := .seq got }, toks := tk }) :
    codeAny (model prog w) A (.call (.builtin "tuple.__new__") ⟨[.type "tuple", .ref r], []⟩) (wants R E) s := by
  refine codeAny_of_tree ?_
  show wpAny _ A.in1 (do checkBuiltinCall "tuple.__new__" ⟨[.type "tuple", .ref r], []⟩; again (.builtin "tuple.__new__" ⟨[.type "tuple", .ref r], []⟩)) _ _ s
  refine wpAny_bind (wpAny_of_eq (F.newCall_tuple_1 _) (wpAny_pure ⟨plainId_quiet F.plain_tuple_new _, codeAny_builtin F.entry_tuple_new ?_⟩))
  rw [Around.under_plainId F.plain_tuple_new _]
  have t1 := sub_tuple_self
  have t2 := init_tuple_lookup
  have t3 := madeHere_tuple
  have t4 := C.type s ok
  have t5 : A.in1.handled = none := hh
  have t6 := C.notTuple
  have t7 := C.notList
  wp_walk using wpAny_typeOf t4, gather_src (A := A.in1) C t5 ok hn
  intro g tk got hk hi
  show wpAny _ _ (Builtin.Tuple.tupleExact got.toList.toArray >>= fun v => ret v) _ _ _
  have e : got.toList.toArray = got := by simp
  unfold Builtin.Tuple.tupleExact
  rw [e]
  exact wpAny_bind (wpAny_newObj_type (wpAny_pure (q g tk got hk hi)) (by show got.size ≤ sizeLine; rw [hi.1]; exact hn))
theorem call_tup_src {R : Value → Shared → Prop} (C : KdlSrc prog w T r d n P OK) (hh : A.handled = none) (ok : OK s.heap) (hn : n ≤ sizeLine)
    (q : ∀ (g : Heap) (tk : Nat) (got : Array Value), (∀ b o, s.heap.get? b = some o → g.get? b = some o) → ItemsOf P got n → R (.ref g.objs.size) { s with heap := g.push { cls := .type "tuple", data := .seq got }, toks := tk }) :
    wpAny (model prog w) A (call (.type "tuple") [.ref r]) R E s := by
  refine callType_codes (Q₁ := fun u t => t.TypeIs u "tuple" ∧ R u t) F.called_tuple (F.typeCall_tuple_1 _) F.entry_object_init
    (new_tup_src (A := A.in1) C hh ok hn fun g tk got hk hi => ⟨⟨_, Heap.get?_push_size _ rfl, rfl⟩, q g tk got hk hi⟩) fun u t h => ?_
  exact ⟨h.1, F.args_object_init_2 u _, object_init_meets F.called_tuple.init.lookup F.called_tuple.made (by decide) prog w A.in1 _ t ⟨h.1, rfl, h.2⟩⟩
end
section
variable {X : Cx}
/-- tuple(d): a dict's keys -/
theorem call_tupD (hc : X.calm = true) : CallR X (.type "tuple") (fun xs H Q => ∃ (a : Addr) (kvs : List (Key × V)), xs = [.ref a] ∧ Rd H a (.dK kvs) ∧ ∀ p, H p = none → Q (.ref p) (upd H p (.tup (kvs.map fun kv => kV kv.1)))) := by
  intro pins s σ H xs us Q I r q
  obtain ⟨a, kvs, ex, hd, q⟩ := q
  subst ex
  obtain ⟨u, eu, rx⟩ := vals1 r
  subst eu
  cases rx
  obtain ⟨z, lo, vs, rel, dd⟩ := dk_rd I.hok hd
  obtain ⟨ep, hat⟩ := dd.dictAt
  have same : (kvs.map fun kv => kV kv.1) = vs.map fun p => kV p.1 := by
    have t := congrArg (List.map kV) rel.keys
    rw [List.map_map, List.map_map] at t
    exact t
  refine call_tup_src (PySem.W.kdl_dict (knd := mixKind X.prog X.w) (kvs := vs) (ep := ep) lo) (I.ok.hd hc) hat (by rw [← rel.length]; exact z) fun g tk got hk hi => ?_
  have rv : Vals (vs.map fun p => kV p.1) got.toList := keys_at (by rw [Array.length_toList]; exact hi.1) fun j v t => hi.2 j v (by rw [← Array.getElem?_toList]; exact t)
  have I1 : Inv X pins σ H { s with heap := g, toks := tk } := I.kept (t' := tk) hk
  have I2 : Inv X pins σ (upd H g.objs.size (.tup (kvs.map fun kv => kV kv.1))) { s with heap := g.push { cls := .type "tuple", data := .seq got }, toks := tk } :=
    I1.laid (t' := tk) (fun b o e => Heap.get?_push_of_some _ e) (Nat.le_refl _) (show ObjOk X.prog X.w _ _ _ (.tup (kvs.map fun kv => kV kv.1)) from ⟨by rw [List.length_map]; exact z, got.toList, by rw [same]; exact rv, by
      have e : got.toList.toArray = got := by simp
      rw [e]
      exact IsTup.new _ _⟩)
  exact ⟨.ref g.objs.size, _, I2, rfl, q _ (I1.hok.fresh (Nat.le_refl _))⟩
end
end My

/-! My own rules: o.m(k = v, ..) where the method may raise; a comprehension over d.items(). -/
namespace My
open PySem PySem.Spec PyProof.Rows L2
section
variable {X : Cx} {CX : CXT} {k : Nat} {C f : Addr} {fd : FuncData} {ps : List Str} {sp : Sp} {E : L2.St → XK}
variable {ks : List Str} {g : List Value → List Value → List Value} {gV : List V → List V → List V} {o : Expr} {m : Str} {pos apos : Pos} {kws : List Keyword} {ta : TE} {tk : TA}
/-- o.m(k = v, ..), nothing by place, what is let out wished for at the caller's slots -/
def tMethKE (C : Addr) (m : Str) (sp : Sp) (gV : List V → List V → List V) (E : L2.St → XK) (ta : TE) (tk : TA) : TE := fun σ H Q => ta σ H fun x H1 => ∃ a dx fs, x = .ref a ∧ H1 a = some (.ins C dx fs) ∧ fs.lookup m = none ∧ tk σ H1 fun zs H2 => sp (gV [x] zs) H2 Q (E σ)
theorem pe_methKE {pl : Sem Bool} (he : PE X o ta) (c : Cls X.K C) (hm : Meth X.K C m f) (F : FnOk X.prog X.w X.K X.mg X.base CX k f fd ps sp) (hr : Room k X.A) (hb : KBinds X.K fd ps ks g gV) (hx : ∀ σ, PassesAt CX X σ (E σ)) (hkw : PK X kws tk)
    (hall : (backToKw pos (keywordEach kws X.env)).all (·.1.isSome) = true := by rfl) (hks : (backToKw pos (keywordEach kws X.env)).filterMap (·.1) = ks := by rfl)
    (hpl : ((backTo pos (starEach [] X.env)).any (·.1) || (backToKw pos (keywordEach kws X.env)).any (·.1.isNone)) = false := by rfl)
    (ht : eval (.Call (.Attribute o m apos) [] kws pos) X.env = (do
      let ov ← eval o X.env
      standAt apos.atName
      let (f, first) ← holding [ov] (getMethod ov m pl)
      callWith pos f first (backTo pos (starEach [] X.env)) (backToKw pos (keywordEach kws X.env))) := by rfl) :
    PE X (.Call (.Attribute o m apos) [] kws pos) (tMethKE C m sp gV E ta tk) := by
  refine ⟨fun pins s σ H Q I h => ?_⟩
  refine PySem.W.methodCall_KW (pl := pl) (thn (he.run pins s σ H _ I h) fun u s1 ⟨x, H1, I1, rx, a, dx, fs, ex, ea, l, q⟩ => ?_) ht
  subst ex
  obtain rfl : u = Value.ref a := rx
  refine getmeth_ok I1 ea c hm l ?_
  refine PySem.W.callWith_KW0 (first := [.ref a]) (h₀ := X.base) I.ok.mod.kin hm.kp hall (thn (hkw.run pos pins s1 σ H1 _ I1 q) fun ws s2 ⟨zs, H2, I2, rz, q2⟩ => ⟨I2.kIn, ?_⟩) hpl
  rw [hks]
  exact run_fnkS (us := [.ref a]) (vs := [.ref a]) F hr hb (hx σ) I2 (.cons rfl .nil) rz q2
end
/-- a dict's comprehension over the items of a dict that is locked -/
theorem dc_items {d : Addr} {o : Obj} {kvs : List (Key × V)} {g : TG} {tt : TT} {tk tv : TE} {vs : List Nat} {σ : L2.St} {H1 : Hp} {D : Addr} {Qd : Hp → Prop} (Pv : Nat → Hp → Prop) (h0 : Pv 0 (upd H1 D (.dK []))) (hl : ∀ i H, i ≤ kvs.length → Pv i H → H d = some (.frz o (.dK kvs)))
    (hs : ∀ i k v T H, kvs[i]? = some (k, v) → Pv i H → H T = none → g (.ref T) (wipe σ vs) (upd H T (.tup [kV k, v])) fun σ2 H2 => wipe σ2 vs = wipe σ vs ∧ tt σ2 H2 fun b H3 =>
      if b = true then tk σ2 H3 fun y H4 => tv σ2 H4 fun z H5 => ∃ kvs k, y = kV k ∧ H5 D = some (.dK kvs) ∧ kvs.length < sizeLine ∧ Pv (i + 1) (upd H5 D (.dK (putK kvs k z))) else Pv (i + 1) H3) (hd : ∀ H, Pv kvs.length H → Qd H) :
    ∃ W : Nat → Nat → Hp → Prop, (∃ m, W 0 m (upd H1 D (.dK []))) ∧ ∀ i m H, W i m H →
      ((Iti d o kvs).stop i H ∧ Qd H) ∨ ((Iti d o kvs).go i H ∧ ∃ Nx : Hp → Prop, (∀ H', Nx H' → ∃ m', m' < m ∧ W (i + 1) m' H') ∧ ∀ x H', (Iti d o kvs).yld i H x H' → g x (wipe σ vs) H' fun σ2 H2 => wipe σ2 vs = wipe σ vs ∧ tt σ2 H2 fun b H3 =>
        if b = true then tk σ2 H3 fun y H4 => tv σ2 H4 fun z H5 => ∃ kvs k, y = kV k ∧ H5 D = some (.dK kvs) ∧ kvs.length < sizeLine ∧ Nx (upd H5 D (.dK (putK kvs k z))) else Nx H3) := by
  refine ⟨fun i m H => m = kvs.length - i ∧ i ≤ kvs.length ∧ Pv i H, ⟨kvs.length, by simp, Nat.zero_le _, h0⟩, ?_⟩
  rintro i m H ⟨rfl, hi, p⟩
  have q := hl i H hi p
  rcases Nat.lt_or_ge i kvs.length with lt | ge
  · refine .inr ⟨⟨q, lt⟩, Pv (i + 1), fun H' p' => ⟨kvs.length - (i + 1), by omega, rfl, lt, p'⟩, ?_⟩
    rintro x H' ⟨T, k, v, e, rfl, nT, rfl⟩
    exact hs i k v T H e p nT
  · have e : i = kvs.length := by omega
    subst e
    exact .inl ⟨⟨q, Nat.le_refl _⟩, hd H p⟩
end My

/-! My own rules: raise X(), X an own exception class without an own __init__; o.m() that may raise. -/
namespace My
open PySem PySem.Spec PyProof.Rows L2
section
variable {X : Cx}
theorem pmk_own0 {C : Addr} {bmB : List Value} {B newId initId : String} {x : Str} {p pos : Pos} (F : ExcBaseFacts B newId initId bmB) (q : PySem.W.excIn X.K C bmB newId = true) (gC : X.mg x = some (.ref C)) (kC : PySem.W.keepIn X.K (.ref C) = true) (r : Raises X (.ref C)) (hg : Gl X x) (hdb : (x == ("__debug__" : Str)) = false := by decide) :
    PMk X (.Call (.Name x p) [] [] pos) (fun _ H Q => Q (.ref C) none H) := by
  intro pins s σ H Q I h
  refine wpAny_Call_Name_kw (ld_glob I hg gC ?_ hdb)
  refine PySem.W.callWith_KW0 (h₀ := X.base) I.ok.mod.kin kC (by rfl) (thn (pk_nil.run pos pins s σ H (fun vs H1 => vs = [] ∧ H1 = H) I ⟨rfl, rfl⟩) fun ws s2 ⟨zs, H2, I2, rz, ez, eH⟩ => ⟨I2.kIn, ?_⟩) (by rfl)
  subst eH
  show wpAny _ _ (call (.ref C) []) _ _ _
  obtain ⟨bm, N, nm, qn, bs, hdct, sn, sub, ab, col, dd, k0, k1, k2, k3, k5, mN, hC, hN, hni, T⟩ := exc_obj I2.kIn q
  exact wpAny_call_exc_subT F T hC hN hni (fun h' e hm => mk_of I2 hm r h (I2.hok.gone hm.new)) (Nat.zero_le _)
end
/-- the receiver alone -/
def kFst {α : Type} (us _ : List α) : List α := us
theorem kbinds_alone {K : PySem.W.Frag} {fd : FuncData} {p1 : Str} (h : ∀ (s : Shared) (u : Value), BindsTo s fd ⟨[u], []⟩ [(p1, u)]) : KBinds K fd [p1] [] kFst kFst where
  to := fun s us ws _ hl => match us, hl with
    | [u], _ => h s u
  rel := fun r _ => r
end My

/-! My own rules: dict comprehensions over a list, list comprehensions over d.items(). -/
namespace My
open PySem PySem.Spec PyProof.Rows L2
/-- {k: v for .. in xs}, xs a list that stays -/
theorem dc_list {K : PySem.W.Frag} {a : Addr} {xs : List V} {g : TG} {tt : TT} {tk tv : TE} {vs : List Nat} {σ : L2.St} {H1 : Hp} {D : Addr} {Qd : Hp → Prop} (Pv : Nat → Hp → Prop) (h0 : Pv 0 (upd H1 D (.dK []))) (hl : ∀ i H, i ≤ xs.length → Pv i H → SqL K H a xs)
    (hs : ∀ i x H, xs[i]? = some x → Pv i H → g x (wipe σ vs) H fun σ2 H2 => wipe σ2 vs = wipe σ vs ∧ tt σ2 H2 fun b H3 =>
      if b = true then tk σ2 H3 fun y H4 => tv σ2 H4 fun z H5 => ∃ kvs k, y = kV k ∧ H5 D = some (.dK kvs) ∧ kvs.length < sizeLine ∧ Pv (i + 1) (upd H5 D (.dK (putK kvs k z))) else Pv (i + 1) H3) (hd : ∀ H, Pv xs.length H → Qd H) :
    ∃ W : Nat → Nat → Hp → Prop, (∃ m, W 0 m (upd H1 D (.dK []))) ∧ ∀ i m H, W i m H →
      ((Itl K a).stop i H ∧ Qd H) ∨ ((Itl K a).go i H ∧ ∃ Nx : Hp → Prop, (∀ H', Nx H' → ∃ m', m' < m ∧ W (i + 1) m' H') ∧ ∀ x H', (Itl K a).yld i H x H' → g x (wipe σ vs) H' fun σ2 H2 => wipe σ2 vs = wipe σ vs ∧ tt σ2 H2 fun b H3 =>
        if b = true then tk σ2 H3 fun y H4 => tv σ2 H4 fun z H5 => ∃ kvs k, y = kV k ∧ H5 D = some (.dK kvs) ∧ kvs.length < sizeLine ∧ Nx (upd H5 D (.dK (putK kvs k z))) else Nx H3) := by
  refine ⟨fun i m H => m = xs.length - i ∧ i ≤ xs.length ∧ Pv i H, ⟨xs.length, by simp, Nat.zero_le _, h0⟩, ?_⟩
  rintro i m H ⟨rfl, hi, p⟩
  have q := hl i H hi p
  rcases Nat.lt_or_ge i xs.length with lt | ge
  · refine .inr ⟨⟨xs, xs[i], q, by simp [lt]⟩, Pv (i + 1), fun H' p' => ⟨xs.length - (i + 1), by omega, rfl, lt, p'⟩, fun x H' y => ?_⟩
    obtain ⟨e, y⟩ := y
    subst e
    exact hs i x _ (y xs q) p
  · have e : i = xs.length := by omega
    subst e
    exact .inl ⟨⟨xs, q, Nat.le_refl _⟩, hd H p⟩
/-- [e for k, v in d.items()], d locked -/
theorem lc_items {d : Addr} {o : Obj} {kvs : List (Key × V)} {g : TG} {tt : TT} {te : TE} {vs : List Nat} {σ : L2.St} {H1 : Hp} {D : Addr} {Qd : Hp → Prop} (Pv : Nat → Hp → Prop) (h0 : Pv 0 (upd H1 D (.lst []))) (hl : ∀ i H, i ≤ kvs.length → Pv i H → H d = some (.frz o (.dK kvs)))
    (hs : ∀ i k v T H, kvs[i]? = some (k, v) → Pv i H → H T = none → g (.ref T) (wipe σ vs) (upd H T (.tup [kV k, v])) fun σ2 H2 => wipe σ2 vs = wipe σ vs ∧ tt σ2 H2 fun b H3 =>
      if b = true then te σ2 H3 fun y H4 => ∃ acc, H4 D = some (.lst acc) ∧ acc.length < sizeLine ∧ Pv (i + 1) (upd H4 D (.lst (acc ++ [y]))) else Pv (i + 1) H3) (hd : ∀ H, Pv kvs.length H → Qd H) :
    ∃ W : Nat → Nat → Hp → Prop, (∃ m, W 0 m (upd H1 D (.lst []))) ∧ ∀ i m H, W i m H →
      ((Iti d o kvs).stop i H ∧ Qd H) ∨ ((Iti d o kvs).go i H ∧ ∃ Nx : Hp → Prop, (∀ H', Nx H' → ∃ m', m' < m ∧ W (i + 1) m' H') ∧ ∀ x H', (Iti d o kvs).yld i H x H' → g x (wipe σ vs) H' fun σ2 H2 => wipe σ2 vs = wipe σ vs ∧ tt σ2 H2 fun b H3 =>
        if b = true then te σ2 H3 fun y H4 => ∃ acc, H4 D = some (.lst acc) ∧ acc.length < sizeLine ∧ Nx (upd H4 D (.lst (acc ++ [y]))) else Nx H3) := by
  refine ⟨fun i m H => m = kvs.length - i ∧ i ≤ kvs.length ∧ Pv i H, ⟨kvs.length, by simp, Nat.zero_le _, h0⟩, ?_⟩
  rintro i m H ⟨rfl, hi, p⟩
  have q := hl i H hi p
  rcases Nat.lt_or_ge i kvs.length with lt | ge
  · refine .inr ⟨⟨q, lt⟩, Pv (i + 1), fun H' p' => ⟨kvs.length - (i + 1), by omega, rfl, lt, p'⟩, ?_⟩
    rintro x H' ⟨T, k, v, e, rfl, nT, rfl⟩
    exact hs i k v T H e p nT
  · have e : i = kvs.length := by omega
    subst e
    exact .inl ⟨⟨q, Nat.le_refl _⟩, hd H p⟩
end My

set_option maxHeartbeats 4000000
/-! My own rules: set(xs) of a list of texts, sorted of such a set. -/
namespace My
open PySem PySem.Spec PyProof.Rows L2
/-- the text of an entry -/
def txOf (e : Int × Value) : Str := match e.2 with | .str k _ => k | _ => Str.empty
def TxE (P : Program) (w : World) (e : Int × Value) : Prop := ∃ k tk, e.2 = Value.str k tk ∧ e.1 = (PySem.strKind P w).hash k
/-- the set at a: its members are the texts ks, some of them maybe twice there -/
def TxSet (P : Program) (w : World) (g : Heap) (a : Addr) (ks : List Str) : Prop :=
  ∃ ob rows ep tb, g.get? a = some ob ∧ ob.ExactSet ∧ ob.data = .set rows ep tb ∧ (∀ e ∈ rows.toList, TxE P w e) ∧ (rows.toList.map txOf).Nodup ∧ (∀ k, k ∈ rows.toList.map txOf ↔ k ∈ ks) ∧
    rows.size ≤ ks.length ∧ rows.size < scanBound ∧ tb.fits rows.size = true ∧ Ris tb.place.toList ∧ (w.params.followText "set-order" = true ∨ tb.led = true)
section
variable {P : Program} {w : World} {g g' : Heap} {a : Addr} {ks : List Str}
theorem TxSet.keep (R : TxSet P w g a ks) (k : ∀ o, g.get? a = some o → g'.get? a = some o) : TxSet P w g' a ks := by
  obtain ⟨ob, rows, ep, tb, ho, rest⟩ := R
  exact ⟨ob, rows, ep, tb, k ob ho, rest⟩
theorem tx_elems {l : List (Int × Value)} (g : ∀ e ∈ l, TxE P w e) : ElemsOf (PySem.strKind P w) l := fun e he => by
  obtain ⟨k, tk, h1, h2⟩ := g e he
  exact ⟨⟨k, by rw [h1]; exact strKind_is P w k tk, h2⟩, by rw [h1] <;> rfl⟩
theorem tx_is {e : Int × Value} (g : TxE P w e) (k : Str) : (PySem.strKind P w).is k e.2 = true ↔ txOf e = k := by
  obtain ⟨k0, tk, h1, _⟩ := g
  unfold txOf
  rw [h1, KeyKind.is_eq_decide (strKind_is P w k0 tk) k]
  simp only [decide_eq_true_eq]
  exact eq_comm
theorem tx_mem {l : List (Int × Value)} (g : ∀ e ∈ l, TxE P w e) (k : Str) : k ∈ l.map txOf ↔ ∃ e ∈ l, (PySem.strKind P w).is k e.2 = true := by
  rw [List.mem_map]
  constructor
  · rintro ⟨e, he, q⟩
    exact ⟨e, he, (tx_is (g e he) k).mpr q⟩
  · rintro ⟨e, he, q⟩
    exact ⟨e, he, (tx_is (g e he) k).mp q⟩
end
section
variable {P : Program} {w : World} {A : Around} {E : Value → Shared → Prop} {s : Shared} {a : Addr} {ks : List Str}
theorem tx_tail {gw : Bool → Sem Unit} (hgw : ∀ (b : Bool) (s₁ : Shared) (Q' : Unit → Shared → Prop), Q' () s₁ → wpAny (model P w) A (gw b) Q' E s₁)
    {ob : Obj} {rows : Array (Int × Value)} {ep : Nat} {tb : SetTable} (ho : s.heap.get? a = some ob) (hx : ob.ExactSet) (hd : ob.data = .set rows ep tb)
    {r1 : Array (Int × Value)} {t2 : SetTable} {ks' : List Str} (g1 : ∀ e ∈ r1.toList, TxE P w e) (nd1 : (r1.toList.map txOf).Nodup) (m1 : ∀ k, k ∈ r1.toList.map txOf ↔ k ∈ ks') (le1 : r1.size ≤ ks'.length)
    (hb1 : r1.size < scanBound) (hf2 : t2.fits r1.size = true) (hr : Ris t2.place.toList) (hl : w.params.followText "set-order" = true ∨ t2.led = true) {dm : Bool} {R : Option Bool → Shared → Prop}
    (hR : ∀ g', Heap.SameBut a s.heap g' → TxSet P w g' a ks' → R (some true) { s with heap := g' }) :
    wpAny (model P w) A (do
        storeSet a r1 t2
        if (!dm && t2.tooFull) = true then do
            gw (relayAll t2 r1 (SetTable.grown r1.size)).2.2
            storeSet a (relayAll t2 r1 (SetTable.grown r1.size)).1 (relayAll t2 r1 (SetTable.grown r1.size)).2.1
            pure (some true)
          else pure (some true)) R E s := by
  refine wpAny_bind (wpAny_storeSet_of ho hd ?_ (fits_of_scanBound hb1))
  have ho1 := store_at (es' := r1) (t' := t2) ho hd
  have sb1 := Heap.SameBut.update s.heap a (Obj.putSet r1 t2)
  split
  · have pm := relayAll_perm t2 r1 (SetTable.grown r1.size)
    have q1 := relayAll_fits t2 r1 (SetTable.grown r1.size)
    have q2 := relayAll_ris t2 r1 (SetTable.grown r1.size)
    have q3 := relayAll_led t2 r1 (SetTable.grown r1.size)
    generalize relayAll t2 r1 (SetTable.grown r1.size) = Z at pm q1 q2 q3 ⊢
    obtain ⟨r2, t3, gave⟩ := Z
    dsimp only at pm q1 q2 q3 ⊢
    have hsz : r2.size = r1.size := by rw [← Array.length_toList, pm.length_eq, Array.length_toList]
    have hb2 : r2.size < scanBound := hsz ▸ hb1
    refine wpAny_bind (hgw _ _ _ ?_)
    refine wpAny_bind (wpAny_storeSet_of ho1 rfl ?_ (fits_of_scanBound hb2))
    have ho2 := store_at (es' := r2) (t' := t3) ho1 rfl
    refine wpAny_pure (hR _ (sb1.trans (Heap.SameBut.update _ a _)) ?_)
    exact ⟨_, r2, _, t3, ho2, hx, rfl, fun e he => g1 e (pm.mem_iff.mp he), (pm.map txOf).nodup_iff.mpr nd1, fun k => (pm.map txOf).mem_iff.trans (m1 k), by rw [hsz]; exact le1, hb2, q1, q2,
      hl.imp id fun z => by rw [q3]; exact z⟩
  · exact wpAny_pure (hR _ sb1 ⟨_, r1, _, t2, ho1, hx, rfl, g1, nd1, m1, le1, hb1, hf2, hr, hl⟩)
theorem tx_add {k : Str} {tk : Tok} {Q : Bool → Shared → Prop} (R : TxSet P w s.heap a ks) (room : ks.length + 1 < scanBound)
    (hQ : ∀ b g', Heap.SameBut a s.heap g' → TxSet P w g' a (ks ++ [k]) → Q b { s with heap := g' }) :
    wpAny (model P w) A (setAddHashed a (.str k tk) ((PySem.strKind P w).hash k)) Q E s := by
  obtain ⟨ob, rows, ep, tb, ho, hx, hd, g, nd, hm, hle, hb, hf, hr, hl⟩ := R
  have hkey : (PySem.strKind P w).is k (.str k tk) = true := strKind_is P w k tk
  have hsc : (Value.str k tk).scannable = true := rfl
  have hel : ElemsOf (PySem.strKind P w) rows.toList := tx_elems g
  unfold setAddHashed setAddHashedIn
  refine wpAny_holding (wpAny_bind (wpAny_setState_of ho hd hf ?_))
  dsimp only
  rw [byScan_of hsc hb hel]
  simp only [↓reduceIte]
  unfold setAddByScan
  refine wpAny_bind ?_
  refine wpAny_bind (wpAny_rule ?_)
  refine wpAny_bind (wpAny_setScan_of hkey ho hd hf hel ?_)
  cases hfi : List.findIdx? (fun e => (PySem.strKind P w).is k e.2) rows.toList with
  | some j =>
    dsimp only
    obtain ⟨hj, pj, _⟩ := List.findIdx?_eq_some_iff_getElem.mp hfi
    have hk : k ∈ ks := (hm k).mp ((tx_mem (P := P) (w := w) g k).mpr ⟨rows.toList[j], List.getElem_mem hj, pj⟩)
    refine wpAny_pure (wpAny_pure ?_)
    refine hQ _ s.heap (Heap.SameBut.refl a s.heap) ⟨ob, rows, ep, tb, ho, hx, hd, g, nd, fun i => ?_, by rw [List.length_append]; omega, hb, hf, hr, hl⟩
    rw [hm i, List.mem_append, List.mem_singleton]
    exact ⟨.inl, fun z => z.elim id fun e => e ▸ hk⟩
  | none =>
    dsimp only
    have hnk : k ∉ rows.toList.map txOf := fun z => by
      obtain ⟨e, he, q⟩ := (tx_mem (P := P) (w := w) g k).mp z
      have c := List.findIdx?_eq_none_iff.mp hfi e he
      rw [q] at c
      cases c
    have hgw : ∀ (b : Bool) {s₁ : Shared} {Q' : Unit → Shared → Prop}, Q' () s₁ → wpAny (model P w) A (match b with | true => rule "set.scan.the-table-gave-way" | false => pure ()) Q' E s₁ :=
      fun b s₁ Q' q => by cases b <;> first | exact wpAny_pure q | exact wpAny_rule q
    have pm := layNew_perm tb rows ((PySem.strKind P w).hash k) (.str k tk)
    have q1 := layNew_fits tb rows ((PySem.strKind P w).hash k) (.str k tk)
    have q2 := layNew_ris tb rows ((PySem.strKind P w).hash k) (.str k tk) hr
    have q3 := layNew_led tb rows ((PySem.strKind P w).hash k) (.str k tk)
    generalize layNew tb rows ((PySem.strKind P w).hash k) (.str k tk) = Z at pm q1 q2 q3 ⊢
    obtain ⟨r1, t1, dm, gave⟩ := Z
    dsimp only at pm q1 q2 q3 ⊢
    rw [Array.toList_push] at pm
    have pc : r1.toList.Perm (((PySem.strKind P w).hash k, Value.str k tk) :: rows.toList) := pm.trans (List.perm_append_singleton _ _)
    have pk : (r1.toList.map txOf).Perm (k :: rows.toList.map txOf) := pc.map txOf
    have g1 : ∀ e ∈ r1.toList, TxE P w e := fun e he => by
      rcases List.mem_cons.mp (pc.mem_iff.mp he) with z | z
      · rw [z]; exact ⟨k, tk, rfl, rfl⟩
      · exact g e z
    have nd1 : (r1.toList.map txOf).Nodup := pk.nodup_iff.mpr (List.nodup_cons.mpr ⟨hnk, nd⟩)
    have m1 : ∀ i, i ∈ r1.toList.map txOf ↔ i ∈ ks ++ [k] := fun i => by
      rw [pk.mem_iff, List.mem_cons, hm i, List.mem_append, List.mem_singleton]
      exact Or.comm
    have hsz : r1.size = rows.size + 1 := by rw [← Array.length_toList, pc.length_eq, List.length_cons, Array.length_toList]
    have le1 : r1.size ≤ (ks ++ [k]).length := by rw [hsz, List.length_append]; show _ ≤ ks.length + 1; omega
    have hb1 : r1.size < scanBound := by omega
    have hled : w.params.followText "set-order" = true ∨ t1.led = true := hl.imp id fun z => by rw [q3]; exact z
    refine wpAny_bind (hgw _ ?_)
    split
    · refine wpAny_bind ?_
      rw [hashByValue_scannable 8 hsc]
      refine wpAny_pure ?_
      refine tx_tail ?_ ho hx hd g1 nd1 m1 le1 hb1 ?_ ?_ ?_ ?_
      · intro b s₁ Q' q; cases b <;> first | exact wpAny_pure q | exact wpAny_rule q
      · first | (split <;> first | exact q1 | exact SetTable.fits_plain_off q1) | exact q1
      · first | (split <;> exact q2) | exact q2
      · first | (split <;> exact hled) | exact hled
      · intro g' sb r; dsimp only; exact wpAny_pure (hQ _ g' sb r)
    · refine wpAny_bind (wpAny_pure ?_)
      simp only [↓reduceIte]
      refine tx_tail ?_ ho hx hd g1 nd1 m1 le1 hb1 q1 q2 hled ?_
      · intro b s₁ Q' q; cases b <;> first | exact wpAny_pure q | exact wpAny_rule q
      · intro g' sb r; dsimp only; exact wpAny_pure (hQ _ g' sb r)
theorem tx_fresh {g : Heap} (ks : List Str) (ho : g.get? a = some { cls := .type "set", dict := none, data := .set #[] 0 (.fresh 0 0 (!w.params.followText "set-order")) }) : TxSet P w g a (ks.take 0) :=
  ⟨_, #[], 0, _, ho, ⟨rfl, rfl, rfl⟩, rfl, (fun e he => by simp at he), (by simp), (fun k => by simp), Nat.zero_le _, (by decide), (by rfl), List.Pairwise.nil, by
    show _ ∨ (!w.params.followText "set-order") = true
    cases w.params.followText "set-order"
    · exact .inr rfl
    · exact .inl rfl⟩
theorem tx_update {I : Addr} {fp wr : List Addr} {G : Array GenState → Array GenState → Prop} {n : Nat} {Pv : Nat → Value → Prop} {St : Nat → Shared → Prop} {R : Result → Shared → Prop}
    (W : WalksS P w A.in1 I fp wr G n Pv St) (D : Addr) (hDf : D ∉ fp) (ks : List Str) (hn : n = ks.length) (hb : ks.length + 1 < scanBound) (hval : ∀ i v, Pv i v → ∃ k t, ks[i]? = some k ∧ v = .str k t) :
    ∀ (m i : Nat) (s : Shared), n - i = m → i ≤ n → St i s → TxSet P w s.heap D (ks.take i) →
      (∀ s', Moved (D :: wr) G s s' → TxSet P w s'.heap D ks → R (.ok (.ret .none)) s') →
      codeAny (model P w) A (.builtin "set.update.loop" ⟨[.ref D, .ref I], []⟩) R s := by
  have hDw : D ∉ wr := fun h => hDf (W.sub _ h)
  have sub : ∀ b ∈ wr, b ∈ D :: wr := fun b hb => List.mem_cons_of_mem _ hb
  intro m
  induction m with
  | zero =>
    intro i s hm hi hst hS hR
    obtain rfl : i = n := by omega
    refine codeAny_builtin F.entry_set_update_loop ?_
    rw [Around.under_plainId F.plain_set_update_loop _]
    show wpAny _ A.in1 (pyNext (.ref I) >>= _) _ _ s
    refine wpAny_bind (W.done s _ _ hst fun s' mv => ?_)
    show wpAny _ A.in1 (ret Value.none) _ _ s'
    have e : ks.take i = ks := List.take_of_length_le (by omega)
    rw [e] at hS
    exact wpAny_pure (hR s' (mv.mono sub) (hS.keep fun o e => mv.heap D o hDw e))
  | succ m ih =>
    intro i s hm hi hst hS hR
    have hlt : i < n := by omega
    refine codeAny_builtin F.entry_set_update_loop ?_
    rw [Around.under_plainId F.plain_set_update_loop _]
    show wpAny _ A.in1 (pyNext (.ref I) >>= _) _ _ s
    refine wpAny_bind (W.item i s _ _ hlt hst fun v s' hP hst' mv => ?_)
    obtain ⟨z, t, hz, rfl⟩ := hval i v hP
    have hS' : TxSet P w s'.heap D (ks.take i) := hS.keep fun o e => mv.heap D o hDw e
    show wpAny _ A.in1 (holding [Value.str z t] (setAdd D (.str z t)) >>= _) _ _ s'
    refine wpAny_bind (wpAny_holding ?_)
    unfold setAdd
    refine wpAny_holding ?_
    refine wpAny_bind ((PySem.strKind P w).pyHash (k := z) (strKind_is _ _ _ _) ?_)
    refine tx_add (s := { s' with toks := s'.toks + 1 }) hS' (by rw [List.length_take]; omega) fun b g' sb hS2 => ?_
    have e : ks.take i ++ [z] = ks.take (i + 1) := by rw [List.take_add_one, hz]; rfl
    rw [e] at hS2
    refine wpAny_pure ⟨plainId_quiet F.plain_set_update_loop _, ih (i + 1) _ (by omega) hlt (W.frame _ s' _ _ hst' (Nat.le_succ _) fun b hb o e => ?_) hS2 fun s'' mv2 hS3 => ?_⟩
    · rw [sb.2 b (fun h : b = D => hDf (by rw [← h]; exact hb))]; exact e
    · refine hR s'' (Moved.trans W.gtrans ((mv.mono sub).then_heap (Nat.le_succ _) fun b o hb e => ?_) mv2) hS3
      rw [sb.2 b (fun h : b = D => hb (by rw [h]; exact List.mem_cons_self))]; exact e
abbrev freshO (w : World) : Obj := { cls := .type "set", dict := none, data := .set #[] 0 (.fresh 0 0 (!w.params.followText "set-order")) }
set_option maxHeartbeats 6400000 in
theorem tx_set {l : Addr} {its : Array Value} (ks : List Str) {Q : Value → Shared → Prop} (hh : A.handled = none) (hl : s.heap.IsList l its) (hit : PyProof.Rows.StrsAre its.toList ks) (hb : ks.length + 1 < scanBound)
    (h : ∀ (g' : Heap) (tk : Nat), TxSet P w g' s.heap.objs.size ks → (∀ b o, s.heap.get? b = some o → g'.get? b = some o) → Q (.ref s.heap.objs.size) { s with heap := g', toks := tk }) :
    wpAny (model P w) A (call (.type "set") [.ref l]) Q E s := by
  have hsz : its.size = ks.length := by
    rw [← PyProof.Rows.StrsAre.len_eq hit, Array.length_toList]
  obtain ⟨c, tl, hmro⟩ := F.called_set.mro
  have hmade := F.called_set.made
  have hsub := F.called_set.sub
  refine wpAny_call (codeAny_of_tree ?_)
  show wpAny _ _ (callAny (.type "set") _) _ _ _
  refine wpAny_pure ⟨Code.quiet_builtin _ (by decide +kernel), codeAny_builtin F.entry_type_call ?_⟩
  rw [Around.under_plain (weight_type_call_type "set" [.ref l] []) rfl]
  have f1 := F.called_set.notType
  have f2 := F.called_set.canCreate
  have f3 := F.typeCall_set_1 (.ref l)
  repeat (any_goals (first | assumption | wp_step))
  generalize hO : ({ cls := .type "set", dict := none, data := .set #[] 0 (.fresh 0 0 (!w.params.followText "set-order")) } : Obj) = O
  refine codeAny_mono (code_set_led1 (.ref l) (E := E) (Q₁ := fun ob s₁ => ob = .ref s.heap.objs.size ∧ s₁ = { s with heap := s.heap.push O }) ⟨rfl, by rw [hO]⟩) fun r s₁ hr => ?_
  cases r with
  | error e => exact hr
  | ok fl =>
    cases fl with
    | ret ob =>
      obtain ⟨rfl, rfl⟩ := hr
      have hcO : O.cls = .type "set" := by rw [← hO]
      have hS : (s.heap.push O).get? s.heap.objs.size = some O := Heap.get?_push_size _ (by rw [← hO]; rfl)
      have hT : Shared.TypeIs { s with heap := s.heap.push O } (.ref s.heap.objs.size) "set" := ⟨_, hS, hcO⟩
      have f4 := F.called_set.init.lookup
      have f5 := F.called_set.init.bind (.ref s.heap.objs.size)
      repeat (any_goals (first | assumption | wp_step))
      refine codeAny_mono (codeAny_call_builtin (R := wants (fun r s₂ => r = .none ∧ ∃ g' tk, s₂ = { s with heap := g', toks := tk } ∧ TxSet P w g' s.heap.objs.size ks ∧
          (∀ b o, s.heap.get? b = some o → g'.get? b = some o)) E) F.called_set.init.plain F.entry_set_init (check_set_init_1 hT ?_)) fun r₂ s₂ hr₂ => ?_
      · subst hO
        obtain ⟨ol, hol, hcl, nl, hdl⟩ := hl
        obtain ⟨ocls, odict, odata, oslots⟩ := ol
        simp only at hcl hdl
        subst hcl; subst hdl
        have hol' : (s.heap.push (freshO w)).get? l = some { cls := .type "list", dict := odict, data := .seq its nl, slots := oslots } := Heap.get?_push_of_some _ hol
        have f6 := F.sub_list_set
        have f7 := F.sub_list_frozenset
        have f8 : (Value.type "list" == Value.type "dict") = false := by decide
        have hl1 : (s.heap.push (freshO w)).IsList l its := ⟨_, hol', rfl, nl, rfl⟩
        unfold Builtin.«set.__init__» noKeywords Builtin.Frozenset.updateFrom
        generalize hPI : pyIter = PI
        wp_walk
        subst hPI
        refine wpAny_pyIter_list hl1 ?_
        refine wpAny_bind (wpAny_runValue ?_)
        have hlt : l < s.heap.objs.size := Heap.lt_size hol
        have hh3 : A.in1.in1.in1.handled = none := by simp [hh]
        have hne : l ≠ (s.heap.push (freshO w)).objs.size := by
          rw [Heap.size_push]; exact Nat.ne_of_lt (Nat.lt_succ_of_lt hlt)
        have hDf : s.heap.objs.size ∉ [(s.heap.push (freshO w)).objs.size, l] := by
          rw [Heap.size_push]; simp only [List.mem_cons, List.mem_singleton, List.not_mem_nil, or_false, not_or]
          exact ⟨Nat.ne_of_lt (Nat.lt_succ_self _), Nat.ne_of_gt hlt⟩
        have hval : ∀ (i : Nat) (v : Value), its[i]? = some v → ∃ k t, ks[i]? = some k ∧ v = .str k t := fun i v hv => by
          have hi : i < ks.length := by rw [← hsz]; exact (Array.getElem?_eq_some_iff.mp hv).1
          obtain ⟨t, e⟩ := SS.strs_at hit i v (by rw [Array.getElem?_toList]; exact hv)
          refine ⟨ks[i], t, List.getElem?_eq_getElem hi, ?_⟩
          rw [e, List.getD_eq_getElem?_getD, List.getElem?_eq_getElem hi] <;> rfl
        refine tx_update ((Walks.list hh3 _ l hne its).toS) s.heap.objs.size
          hDf ks hsz hb hval (its.size - 0) 0 _ (by omega) (Nat.zero_le _)
          ⟨⟨_, Heap.get?_push_size _ rfl, rfl, rfl⟩, (hl1.push _)⟩ ?hS0 ?hR
        case hS0 =>
          have hget : ((s.heap.push (freshO w)).push { cls := .type "list_iterator", data := .fields #[.ref l, .int 0 0] }).get? s.heap.objs.size = some (freshO w) := Heap.get?_push_of_some _ hS
          exact tx_fresh ks hget
        case hR =>
          intro s' mv hS'
          obtain ⟨g', g2, d', tk', os'⟩ := s'
          have eg : g2 = s.gens := mv.gens
          have ed : d' = s.drawn := mv.drawn
          have eo : os' = s.os := mv.os
          subst eg; subst ed; subst eo
          show wpAny _ _ _ _ _ _
          refine wpAny_pure ?_
          show wpAny _ _ (ret Value.none) _ _ _
          refine wpAny_pure ⟨rfl, g', tk', rfl, hS', fun b o e => ?_⟩
          have hb0 : b < s.heap.objs.size := Heap.lt_size e
          have hb1 : b ≠ s.heap.objs.size := Nat.ne_of_lt hb0
          have hb2 : b ≠ (s.heap.push (freshO w)).objs.size := by
            rw [Heap.size_push]; exact Nat.ne_of_lt (Nat.lt_succ_of_lt hb0)
          exact mv.heap b o (by simp only [List.mem_cons, List.mem_singleton, List.not_mem_nil, or_false, not_or]; exact ⟨hb1, hb2⟩) (Heap.get?_push_of_some _ (Heap.get?_push_of_some _ e))
      · cases r₂ with
        | error e => exact hr₂
        | ok fl₂ =>
          cases fl₂ with
          | ret r =>
            obtain ⟨rfl, g', tk, rfl, hS', hk'⟩ := hr₂
            repeat (any_goals (first | assumption | wp_step))
            exact h _ _ hS' hk'
          | _ => exact hr₂.elim
    | _ => exact hr.elim
theorem tx_vals : ∀ (l : List Value), (∀ v ∈ l, ∃ k tk, v = Value.str k tk) → PyProof.Rows.StrsAre l (l.map fun v => txOf (0, v))
  | [], _ => .nil
  | v :: l, h => by
    obtain ⟨k, tk, rfl⟩ := h v List.mem_cons_self
    exact .cons k tk (tx_vals l fun v hv => h v (List.mem_cons_of_mem _ hv))
theorem tx_sorted {ks : List Str} {Q : Value → Shared → Prop} (R : TxSet P w s.heap a ks) (hh : A.handled = none) (h64 : ks.length < 64)
    (hQ : ∀ s' p (out : Array Value) (c : Nat) (ys : List Str), (∀ b o, s.heap.get? b = some o → s'.heap.get? b = some o) → s'.gens = s.gens → s'.os = s.os → s.heap.objs.size ≤ p →
      s'.heap.get? p = some (seqObj "list" out c) → PyProof.Rows.StrsAre out.toList ys → ys.Nodup → (∀ k, k ∈ ys ↔ k ∈ ks) → PyProof.Rows.sortedS ys = true → ys.length ≤ ks.length → Q (.ref p) s') :
    wpAny (model P w) A (call (.builtin "sorted") [.ref a]) Q E s := by
  obtain ⟨ob, rows, ep, tb, ho, hex, hd, g, nd, hm, hle, hb, hf, hr, hl⟩ := R
  refine Calls.call_function_entry kind_sorted plain_sorted entry_sorted (args_sorted1 _) ?_
  unfold Builtin.«sorted»
  refine wpAny_bind (m := checkCount "sorted" 1 1 _) (wpAny_pure ?_)
  refine wpAny_bind (collect_set (A := A.in1) hh ⟨ob, ho, hex.1, hd⟩ hf hb hr hl fun s1 vs k1 hz g1 o1 pm => ?_)
  have hvl : vs.length ≤ ks.length := by rw [pm.length_eq, List.length_map, Array.length_toList]; exact hle
  have hI := tx_vals vs fun v hv => by
    obtain ⟨e, he, q⟩ := List.mem_map.mp (pm.mem_iff.mp hv)
    obtain ⟨k, tk, h1, _⟩ := g e he
    exact ⟨k, tk, by rw [← q]; exact h1⟩
  have pk : (vs.map fun v => txOf (0, v)).Perm (rows.toList.map txOf) := by
    have q := pm.map fun v => txOf (0, v)
    rw [List.map_map] at q
    exact q
  refine wpAny_bind (wpAny_newList ?_ (by rw [sizeLine_eq]; omega))
  have hoL : (s1.heap.push (seqObj "list" vs.toArray 0)).get? s1.heap.objs.size = some (seqObj "list" vs.toArray 0) := Heap.get?_push_size _ rfl
  refine wpAny_bind (wpAny_holding (wpAny_call_entry slot_list_sort ⟨_, hoL, rfl⟩ entry_list_sort (list_sort_treeK strKind_oneLt hoL hI.keysOf (fun v₁ v₂ rest e => keyKind_strs (by rw [← e]; exact hI)) (by omega) fun st' a1 a2 => ⟨_, rfl, ?_⟩) (args_list_sort _)))
  obtain ⟨ys, b1, b2, b3⟩ := sorted_out_str hI a1 a2
  obtain ⟨c, hc⟩ := sortedHeap_at (vs := vs) (out := (arrOf st').map (·.2)) hoL
  have pn : ys.Perm (rows.toList.map txOf) := b2.trans pk
  refine wpAny_pure ⟨_, rfl, hQ _ s1.heap.objs.size _ c ys (fun b u e => ?_) g1 o1 hz hc b1 (pn.nodup_iff.mpr nd) (fun k => by rw [pn.mem_iff, hm k]) b3 ?_⟩
  · have q := k1 b u e
    have hlt := Heap.lt_size q
    show (sortedHeap (s1.heap.push (seqObj "list" vs.toArray 0)) s1.heap.objs.size vs _).get? b = some u
    rw [sortedHeap_old (Nat.ne_of_lt hlt) (by rw [size_push']; exact Nat.lt_succ_of_lt hlt)]
    exact Heap.get?_push_of_some _ q
  · rw [pn.length_eq, List.length_map, Array.length_toList]; exact hle
end
/-- the set of texts at a -/
def TxO (P : Program) (w : World) (a : Addr) (ks : List Str) : HO := .ext fun g => TxSet P w g a ks
section
variable {X : Cx}
theorem txO_new {P : Program} {w : World} {H : Hp} {g : Heap} {a : Addr} {ks : List Str} (R : TxSet P w g a ks) : ObjOk P w H g a (TxO P w a ks) := by
  have ⟨o, _, _, _, ho, _⟩ := R
  exact ⟨R, ⟨o, ho⟩, fun h1 h2 p k => TxSet.keep p k⟩
/-- set(xs), xs a list of texts -/
def rSetTx (K : PySem.W.Frag) (P : Program) (w : World) : List V → Hp → VK → Prop := fun xs H Q => ∃ (l : Addr) (ks : List Str), xs = [V.ref l] ∧ SqL K H l (ks.map V.str) ∧ ks.length < 4000 ∧
  ∀ a, H a = none → Q (.ref a) (upd H a (TxO P w a ks))
theorem cr_setTx (hc : X.calm = true) : CallR X (.type "set") (rSetTx X.K X.prog X.w) := by
  intro pins s σ H xs us Q I r h
  obtain ⟨l, ks, rfl, hl, hf, q⟩ := h
  rw [Vals.ref1 r]
  obtain ⟨its, rv, pl, hz⟩ := I.list hl
  have hn : H s.heap.objs.size = none := I.hok.fresh (Nat.le_refl _)
  refine tx_set (P := X.prog) (w := X.w) ks (I.ok.hd hc) pl.isList rv.strs (by unfold scanBound; omega) fun g' tk R k => ?_
  exact ⟨.ref s.heap.objs.size, upd H s.heap.objs.size (TxO X.prog X.w s.heap.objs.size ks), I.laid (t' := tk) k (Nat.le_refl _) (txO_new R), rfl, q _ hn⟩
/-- sorted of such a set -/
def rSortTx (P : Program) (w : World) : List V → Hp → VK → Prop := fun xs H Q => ∃ (a : Addr) (ks : List Str), xs = [V.ref a] ∧ H a = some (TxO P w a ks) ∧ ks.length < 64 ∧
  ∀ (ys : List Str) (p : Addr), ys.Nodup → (∀ k, k ∈ ys ↔ k ∈ ks) → PyProof.Rows.sortedS ys = true → ys.length ≤ ks.length → H p = none → Q (.ref p) (upd H p (.lst (ys.map V.str)))
theorem cr_sortTx (hc : X.calm = true) : CallR X (.builtin "sorted") (rSortTx X.prog X.w) := by
  intro pins s σ H xs us Q I r h
  obtain ⟨a, ks, rfl, ha, h64, q⟩ := h
  have R : TxSet X.prog X.w s.heap a ks := (I.hok a _ ha).1
  rw [Vals.ref1 r]
  refine tx_sorted R (I.ok.hd hc) h64 fun s' p out c ys k g o hp hg hi hnd hmem hso hle => ?_
  have hlen : (ys.map V.str).length ≤ sizeLine := by rw [List.length_map, sizeLine_eq]; omega
  have hn : H p = none := I.hok.fresh hp
  have J : Inv X pins σ (upd H p (.lst (ys.map V.str))) { s with heap := s'.heap, gens := s'.gens, drawn := s'.drawn, toks := s'.toks } :=
    I.call (ch := []) (Un.laid k hp hn) (I.hok.laid k hp ⟨hlen, out.toList, c, vals_of_strs hi, hg⟩) (by rw [g]; exact I.bare) (fun _ z => nomatch z)
  have e : s' = { s with heap := s'.heap, gens := s'.gens, drawn := s'.drawn, toks := s'.toks } := by
    cases s'
    cases s
    cases o
    rfl
  rw [e]
  exact ⟨.ref p, _, J, rfl, q ys p hnd hmem hso hle hn⟩
end
end My

/-! My own rules: a dict is locked, or was locked before; walks of locked dicts; two fors over a dict's values and each value's items. -/
namespace My
open PySem PySem.Spec PyProof.Rows L2
/-- as under a lock, where the thing may be locked before -/
def tMay (t : TS) : TS := fun D σ H => ∃ d u od, ∃ bk : Hp → Hp,
  ((H d = some u ∧ Mut (some u) ∧ bk = (fun H' => upd H' d u) ∧ ∀ od, t ⟨fun σ' H' => H' d = some (.frz od u) ∧ D.nx σ' (bk H'), fun v H' => H' d = some (.frz od u) ∧ D.rt v (bk H'), fun σ' H' => H' d = some (.frz od u) ∧ D.bk σ' (bk H'), fun σ' H' => H' d = some (.frz od u) ∧ D.ct σ' (bk H')⟩ σ (upd H d (.frz od u))) ∨
    (H d = some (.frz od u) ∧ bk = id ∧ t ⟨fun σ' H' => H' d = some (.frz od u) ∧ D.nx σ' (bk H'), fun v H' => H' d = some (.frz od u) ∧ D.rt v (bk H'), fun σ' H' => H' d = some (.frz od u) ∧ D.bk σ' (bk H'), fun σ' H' => H' d = some (.frz od u) ∧ D.ct σ' (bk H')⟩ σ H))
section
variable {X : Cx}
theorem ps_may {st : Stmt} {t : TS} (h : PS X st t) : PS X st (tMay t) := by
  refine ⟨fun pins s σ H D I hw => ?_⟩
  obtain ⟨d, u, od, bk, ⟨hd, mu, rfl, hw⟩ | ⟨hd, rfl, hw⟩⟩ := hw
  · exact (ps_lock h).run pins s σ H D I ⟨d, u, hd, mu, hw⟩
  · refine thn (h.run pins s σ _ _ I hw) fun f s1 q => ?_
    cases f with
    | next => obtain ⟨σ', H', I2, _, q⟩ := q; exact ⟨σ', H', I2, q⟩
    | brk => obtain ⟨σ', H', I2, _, q⟩ := q; exact ⟨σ', H', I2, q⟩
    | cont => obtain ⟨σ', H', I2, _, q⟩ := q; exact ⟨σ', H', I2, q⟩
    | ret v => obtain ⟨x, σ', H', I2, r, _, q⟩ := q; exact ⟨x, σ', H', I2, r, q⟩
end
theorem may_ask {t : TS} {D : Ends} {σ : L2.St} {H : Hp} {d : Addr} {kvs : List (Key × V)} (hd : Rd H d (.dK kvs))
    (k : ∀ od Hl, ∀ bk : Hp → Hp, Hl d = some (.frz od (.dK kvs)) → (∀ c, c ≠ d → Hl c = H c) → (∀ H' c, c ≠ d → bk H' c = H' c) → (∀ H', H' d = some (.frz od (.dK kvs)) → bk H' d = H d) →
      t ⟨fun σ' H' => H' d = some (.frz od (.dK kvs)) ∧ D.nx σ' (bk H'), fun v H' => H' d = some (.frz od (.dK kvs)) ∧ D.rt v (bk H'), fun σ' H' => H' d = some (.frz od (.dK kvs)) ∧ D.bk σ' (bk H'), fun σ' H' => H' d = some (.frz od (.dK kvs)) ∧ D.ct σ' (bk H')⟩ σ Hl) : tMay t D σ H := by
  rcases hd with hd | ⟨o, hd⟩
  · exact ⟨d, _, default, _, .inl ⟨hd, trivial, rfl, fun od => k od _ _ upd_same (fun c h => upd_ne h) (fun H' c h => upd_ne h) fun H' _ => by rw [hd]; exact upd_same⟩⟩
  · exact ⟨d, _, o, _, .inr ⟨hd, rfl, k o H id hd (fun c _ => rfl) (fun H' c _ => rfl) fun H' e => by rw [hd]; exact e⟩⟩
section
variable {d : Addr} {o : Obj} {kvs : List (Key × V)} {g : TG} {tb : TS} {D : Ends} {σ : L2.St} {H : Hp}
theorem for_vals (Pv : Nat → L2.St → Hp → Prop) (h0 : Pv 0 σ H) (hl : ∀ i σ H, i ≤ kvs.length → Pv i σ H → H d = some (.frz o (.dK kvs)))
    (hs : ∀ i k v σ H, kvs[i]? = some (k, v) → Pv i σ H → g v σ H fun σ2 H2 => tb { D with nx := Pv (i + 1), ct := Pv (i + 1), bk := D.nx } σ2 H2) (hd : ∀ σ H, Pv kvs.length σ H → D.nx σ H) :
    ∃ W : Nat → Nat → L2.St → Hp → Prop, (∃ m, W 0 m σ H) ∧ ∀ i m σ H, W i m σ H →
      ((Itd d o kvs).stop i H ∧ D.nx σ H) ∨ ((Itd d o kvs).go i H ∧ ∃ N : L2.St → Hp → Prop, (∀ σ' H', N σ' H' → ∃ m', m' < m ∧ W (i + 1) m' σ' H') ∧ ∀ x H', (Itd d o kvs).yld i H x H' → g x σ H' fun σ2 H2 => tb { D with nx := N, ct := N, bk := D.nx } σ2 H2) := by
  refine ⟨fun i m σ H => m = kvs.length - i ∧ i ≤ kvs.length ∧ Pv i σ H, ⟨kvs.length, by simp, Nat.zero_le _, h0⟩, ?_⟩
  rintro i m σ H ⟨rfl, hi, p⟩
  have q := hl i σ H hi p
  rcases Nat.lt_or_ge i kvs.length with lt | ge
  · refine .inr ⟨⟨q, lt⟩, Pv (i + 1), fun σ' H' p' => ⟨kvs.length - (i + 1), by omega, rfl, lt, p'⟩, ?_⟩
    rintro x H' ⟨rfl, k, e⟩
    exact hs i k x σ _ e p
  · have e : i = kvs.length := by omega
    subst e
    exact .inl ⟨⟨q, Nat.le_refl _⟩, hd σ H p⟩
theorem for_ents (Pv : Nat → L2.St → Hp → Prop) (h0 : Pv 0 σ H) (hl : ∀ i σ H, i ≤ kvs.length → Pv i σ H → H d = some (.frz o (.dK kvs)))
    (hs : ∀ i k v T σ H, kvs[i]? = some (k, v) → Pv i σ H → H T = none → g (.ref T) σ (upd H T (.tup [kV k, v])) fun σ2 H2 => tb { D with nx := Pv (i + 1), ct := Pv (i + 1), bk := D.nx } σ2 H2) (hd : ∀ σ H, Pv kvs.length σ H → D.nx σ H) :
    ∃ W : Nat → Nat → L2.St → Hp → Prop, (∃ m, W 0 m σ H) ∧ ∀ i m σ H, W i m σ H →
      ((Iti d o kvs).stop i H ∧ D.nx σ H) ∨ ((Iti d o kvs).go i H ∧ ∃ N : L2.St → Hp → Prop, (∀ σ' H', N σ' H' → ∃ m', m' < m ∧ W (i + 1) m' σ' H') ∧ ∀ x H', (Iti d o kvs).yld i H x H' → g x σ H' fun σ2 H2 => tb { D with nx := N, ct := N, bk := D.nx } σ2 H2) := by
  refine ⟨fun i m σ H => m = kvs.length - i ∧ i ≤ kvs.length ∧ Pv i σ H, ⟨kvs.length, by simp, Nat.zero_le _, h0⟩, ?_⟩
  rintro i m σ H ⟨rfl, hi, p⟩
  have q := hl i σ H hi p
  rcases Nat.lt_or_ge i kvs.length with lt | ge
  · refine .inr ⟨⟨q, lt⟩, Pv (i + 1), fun σ' H' p' => ⟨kvs.length - (i + 1), by omega, rfl, lt, p'⟩, ?_⟩
    rintro x H' ⟨T, k, v, e, rfl, nT, rfl⟩
    exact hs i k v T σ H e p nT
  · have e : i = kvs.length := by omega
    subst e
    exact .inl ⟨⟨q, Nat.le_refl _⟩, hd σ H p⟩
theorem for_keys (Pv : Nat → L2.St → Hp → Prop) (h0 : Pv 0 σ H) (hl : ∀ i σ H, i ≤ kvs.length → Pv i σ H → H d = some (.frz o (.dK kvs)))
    (hs : ∀ i k v σ H, kvs[i]? = some (k, v) → Pv i σ H → g (kV k) σ H fun σ2 H2 => tb { D with nx := Pv (i + 1), ct := Pv (i + 1), bk := D.nx } σ2 H2) (hd : ∀ σ H, Pv kvs.length σ H → D.nx σ H) :
    ∃ W : Nat → Nat → L2.St → Hp → Prop, (∃ m, W 0 m σ H) ∧ ∀ i m σ H, W i m σ H →
      ((Itk d o kvs).stop i H ∧ D.nx σ H) ∨ ((Itk d o kvs).go i H ∧ ∃ N : L2.St → Hp → Prop, (∀ σ' H', N σ' H' → ∃ m', m' < m ∧ W (i + 1) m' σ' H') ∧ ∀ x H', (Itk d o kvs).yld i H x H' → g x σ H' fun σ2 H2 => tb { D with nx := N, ct := N, bk := D.nx } σ2 H2) := by
  refine ⟨fun i m σ H => m = kvs.length - i ∧ i ≤ kvs.length ∧ Pv i σ H, ⟨kvs.length, by simp, Nat.zero_le _, h0⟩, ?_⟩
  rintro i m σ H ⟨rfl, hi, p⟩
  have q := hl i σ H hi p
  rcases Nat.lt_or_ge i kvs.length with lt | ge
  · refine .inr ⟨⟨q, lt⟩, Pv (i + 1), fun σ' H' p' => ⟨kvs.length - (i + 1), by omega, rfl, lt, p'⟩, ?_⟩
    rintro x H' ⟨rfl, k, v, e, rfl⟩
    exact hs i k v σ _ e p
  · have e : i = kvs.length := by omega
    subst e
    exact .inl ⟨⟨q, Nat.le_refl _⟩, hd σ H p⟩
end
/-- the outer for of two: over a locked dict's values -/
theorem lc2_vals {d : Addr} {o : Obj} {kvs : List (Key × V)} {g : TG} {vs : List Nat} {σ : L2.St} {H1 : Hp} {D : Addr} {Qd : Hp → Prop} {R : L2.St → Hp → (Hp → Prop) → Prop} (Pv : Nat → Hp → Prop) (h0 : Pv 0 (upd H1 D (.lst []))) (hl : ∀ i H, i ≤ kvs.length → Pv i H → H d = some (.frz o (.dK kvs)))
    (hs : ∀ i k v H, kvs[i]? = some (k, v) → Pv i H → g v (wipe σ vs) H fun σ2 H2 => wipe σ2 vs = wipe σ vs ∧ R σ2 H2 (Pv (i + 1))) (hd : ∀ H, Pv kvs.length H → Qd H) :
    ∃ W : Nat → Nat → Hp → Prop, (∃ m, W 0 m (upd H1 D (.lst []))) ∧ ∀ i m H, W i m H →
      ((Itd d o kvs).stop i H ∧ Qd H) ∨ ((Itd d o kvs).go i H ∧ ∃ Nx : Hp → Prop, (∀ H', Nx H' → ∃ m', m' < m ∧ W (i + 1) m' H') ∧ ∀ x H', (Itd d o kvs).yld i H x H' → g x (wipe σ vs) H' fun σ2 H2 => wipe σ2 vs = wipe σ vs ∧ R σ2 H2 Nx) := by
  refine ⟨fun i m H => m = kvs.length - i ∧ i ≤ kvs.length ∧ Pv i H, ⟨kvs.length, by simp, Nat.zero_le _, h0⟩, ?_⟩
  rintro i m H ⟨rfl, hi, p⟩
  have q := hl i H hi p
  rcases Nat.lt_or_ge i kvs.length with lt | ge
  · refine .inr ⟨⟨q, lt⟩, Pv (i + 1), fun H' p' => ⟨kvs.length - (i + 1), by omega, rfl, lt, p'⟩, ?_⟩
    rintro x H' ⟨rfl, k, e⟩
    exact hs i k x _ e p
  · have e : i = kvs.length := by omega
    subst e
    exact .inl ⟨⟨q, Nat.le_refl _⟩, hd H p⟩
/-- the inner for of two: over a tuple -/
theorem lc2_tup {K : PySem.W.Frag} {a : Addr} {xs : List V} {Nx : Hp → Prop} {H4 : Hp} {R : V → Hp → (Hp → Prop) → Prop} (Pv : Nat → Hp → Prop) (h0 : Pv 0 H4) (hl : ∀ i H, i ≤ xs.length → Pv i H → SqT K H a xs)
    (hs : ∀ i x H, xs[i]? = some x → Pv i H → R x H (Pv (i + 1))) (hd : ∀ H, Pv xs.length H → Nx H) :
    ∃ W : Nat → Nat → Hp → Prop, (∃ m, W 0 m H4) ∧ ∀ j k H, W j k H →
      ((Itt K a).stop j H ∧ Nx H) ∨ ((Itt K a).go j H ∧ ∃ Nx1 : Hp → Prop, (∀ H', Nx1 H' → ∃ k', k' < k ∧ W (j + 1) k' H') ∧ ∀ x H', (Itt K a).yld j H x H' → R x H' Nx1) := by
  refine ⟨fun i m H => m = xs.length - i ∧ i ≤ xs.length ∧ Pv i H, ⟨xs.length, by simp, Nat.zero_le _, h0⟩, ?_⟩
  rintro i m H ⟨rfl, hi, p⟩
  have q := hl i H hi p
  rcases Nat.lt_or_ge i xs.length with lt | ge
  · refine .inr ⟨⟨xs, xs[i], q, by simp [lt]⟩, Pv (i + 1), fun H' p' => ⟨xs.length - (i + 1), by omega, rfl, lt, p'⟩, fun x H' y => ?_⟩
    obtain ⟨e, y⟩ := y
    subst e
    exact hs i x _ (y xs q) p
  · have e : i = xs.length := by omega
    subst e
    exact .inl ⟨⟨xs, q, Nat.le_refl _⟩, hd H p⟩
/-- a, b, c = a tuple or a list -/
def gSeq (K : PySem.W.Frag) (n : Nat) (t : TGs) : TG := fun v σ H Q => gTup K n t v σ H Q ∨ gLst K n t v σ H Q
theorem pg_seq {X : Cx} {pos : Pos} {es : List Expr} {k : Nat} {t : TGs} {n : Nat} (hc : X.calm = true) (h : PGs X es t)
    (hn : (assignEach es X.env).length = n := by rfl) (hst : (assignEach es X.env).findIdx? (·.1) = none := by rfl) : PG X (.Tuple es k pos) (gSeq X.K n t) :=
  ⟨fun pins s σ H v u Q I r hw => hw.elim ((pg_tup hc h hn hst).run pins s σ H v u Q I r) ((pg_lst hc h hn hst).run pins s σ H v u Q I r)⟩
/-- a for over a list or a tuple that stays -/
theorem for_seq {K : PySem.W.Frag} {a : Addr} {xs : List V} {g : TG} {tb : TS} {D : Ends} {σ : L2.St} {H H0 : Hp} (hq : SqL K H0 a xs ∨ SqT K H0 a xs) (Pv : Nat → L2.St → Hp → Prop) (h0 : Pv 0 σ H)
    (hl : ∀ i σ H', Pv i σ H' → (SqL K H0 a xs → SqL K H' a xs) ∧ (SqT K H0 a xs → SqT K H' a xs))
    (hs : ∀ i x σ H, xs[i]? = some x → Pv i σ H → g x σ H fun σ2 H2 => tb { D with nx := Pv (i + 1), ct := Pv (i + 1), bk := D.nx } σ2 H2) (hd : ∀ σ H, Pv xs.length σ H → D.nx σ H) :
    ((∃ xs, SqL K H a xs) ∧ ∃ W : Nat → Nat → L2.St → Hp → Prop, (∃ m, W 0 m σ H) ∧ ∀ i m σ H, W i m σ H →
      ((Itl K a).stop i H ∧ D.nx σ H) ∨ ((Itl K a).go i H ∧ ∃ N : L2.St → Hp → Prop, (∀ σ' H', N σ' H' → ∃ m', m' < m ∧ W (i + 1) m' σ' H') ∧ ∀ x H', (Itl K a).yld i H x H' → g x σ H' fun σ2 H2 => tb { D with nx := N, ct := N, bk := D.nx } σ2 H2)) ∨
    ((∃ xs, SqT K H a xs) ∧ ∃ W : Nat → Nat → L2.St → Hp → Prop, (∃ m, W 0 m σ H) ∧ ∀ i m σ H, W i m σ H →
      ((Itt K a).stop i H ∧ D.nx σ H) ∨ ((Itt K a).go i H ∧ ∃ N : L2.St → Hp → Prop, (∀ σ' H', N σ' H' → ∃ m', m' < m ∧ W (i + 1) m' σ' H') ∧ ∀ x H', (Itt K a).yld i H x H' → g x σ H' fun σ2 H2 => tb { D with nx := N, ct := N, bk := D.nx } σ2 H2)) := by
  rcases hq with hq | hq
  · exact .inl ⟨⟨_, (hl 0 σ H h0).1 hq⟩, for_list Pv h0 (fun i σ H' _ p => (hl i σ H' p).1 hq) hs hd⟩
  · exact .inr ⟨⟨_, (hl 0 σ H h0).2 hq⟩, for_tup Pv h0 (fun i σ H' _ p => (hl i σ H' p).2 hq) hs hd⟩
/-- {k: v for .. in xs}, xs a tuple that stays -/
theorem dc_tup {K : PySem.W.Frag} {a : Addr} {xs : List V} {g : TG} {tt : TT} {tk tv : TE} {vs : List Nat} {σ : L2.St} {H1 : Hp} {D : Addr} {Qd : Hp → Prop} (Pv : Nat → Hp → Prop) (h0 : Pv 0 (upd H1 D (.dK []))) (hl : ∀ i H, i ≤ xs.length → Pv i H → SqT K H a xs)
    (hs : ∀ i x H, xs[i]? = some x → Pv i H → g x (wipe σ vs) H fun σ2 H2 => wipe σ2 vs = wipe σ vs ∧ tt σ2 H2 fun b H3 =>
      if b = true then tk σ2 H3 fun y H4 => tv σ2 H4 fun z H5 => ∃ kvs k, y = kV k ∧ H5 D = some (.dK kvs) ∧ kvs.length < sizeLine ∧ Pv (i + 1) (upd H5 D (.dK (putK kvs k z))) else Pv (i + 1) H3) (hd : ∀ H, Pv xs.length H → Qd H) :
    ∃ W : Nat → Nat → Hp → Prop, (∃ m, W 0 m (upd H1 D (.dK []))) ∧ ∀ i m H, W i m H →
      ((Itt K a).stop i H ∧ Qd H) ∨ ((Itt K a).go i H ∧ ∃ Nx : Hp → Prop, (∀ H', Nx H' → ∃ m', m' < m ∧ W (i + 1) m' H') ∧ ∀ x H', (Itt K a).yld i H x H' → g x (wipe σ vs) H' fun σ2 H2 => wipe σ2 vs = wipe σ vs ∧ tt σ2 H2 fun b H3 =>
        if b = true then tk σ2 H3 fun y H4 => tv σ2 H4 fun z H5 => ∃ kvs k, y = kV k ∧ H5 D = some (.dK kvs) ∧ kvs.length < sizeLine ∧ Nx (upd H5 D (.dK (putK kvs k z))) else Nx H3) := by
  refine ⟨fun i m H => m = xs.length - i ∧ i ≤ xs.length ∧ Pv i H, ⟨xs.length, by simp, Nat.zero_le _, h0⟩, ?_⟩
  rintro i m H ⟨rfl, hi, p⟩
  have q := hl i H hi p
  rcases Nat.lt_or_ge i xs.length with lt | ge
  · refine .inr ⟨⟨xs, xs[i], q, by simp [lt]⟩, Pv (i + 1), fun H' p' => ⟨xs.length - (i + 1), by omega, rfl, lt, p'⟩, fun x H' y => ?_⟩
    obtain ⟨e, y⟩ := y
    subst e
    exact hs i x _ (y xs q) p
  · have e : i = xs.length := by omega
    subst e
    exact .inl ⟨⟨xs, q, Nat.le_refl _⟩, hd H p⟩
/-- {k: v for .. in xs}, xs a list or a tuple that stays -/
theorem dc_seq {K : PySem.W.Frag} {a : Addr} {xs : List V} {g : TG} {tt : TT} {tk tv : TE} {vs : List Nat} {σ : L2.St} {H1 H0 : Hp} {Qd : Addr → Hp → Prop} (hq : SqL K H0 a xs ∨ SqT K H0 a xs) (h1 : Same H0 H1) (Pv : Addr → Nat → Hp → Prop) (h0 : ∀ D, H1 D = none → Pv D 0 (upd H1 D (.dK []))) (hl : ∀ D i H', Pv D i H' → Same H0 H')
    (hs : ∀ D, H1 D = none → ∀ i x H, xs[i]? = some x → Pv D i H → g x (wipe σ vs) H fun σ2 H2 => wipe σ2 vs = wipe σ vs ∧ tt σ2 H2 fun b H3 =>
      if b = true then tk σ2 H3 fun y H4 => tv σ2 H4 fun z H5 => ∃ kvs k, y = kV k ∧ H5 D = some (.dK kvs) ∧ kvs.length < sizeLine ∧ Pv D (i + 1) (upd H5 D (.dK (putK kvs k z))) else Pv D (i + 1) H3) (hd : ∀ D H, H1 D = none → Pv D xs.length H → Qd D H) :
    ((∃ xs, SqL K H1 a xs) ∧ ∀ D, H1 D = none → ∃ W : Nat → Nat → Hp → Prop, (∃ m, W 0 m (upd H1 D (.dK []))) ∧ ∀ i m H, W i m H →
      ((Itl K a).stop i H ∧ Qd D H) ∨ ((Itl K a).go i H ∧ ∃ Nx : Hp → Prop, (∀ H', Nx H' → ∃ m', m' < m ∧ W (i + 1) m' H') ∧ ∀ x H', (Itl K a).yld i H x H' → g x (wipe σ vs) H' fun σ2 H2 => wipe σ2 vs = wipe σ vs ∧ tt σ2 H2 fun b H3 =>
        if b = true then tk σ2 H3 fun y H4 => tv σ2 H4 fun z H5 => ∃ kvs k, y = kV k ∧ H5 D = some (.dK kvs) ∧ kvs.length < sizeLine ∧ Nx (upd H5 D (.dK (putK kvs k z))) else Nx H3)) ∨
    ((∃ xs, SqT K H1 a xs) ∧ ∀ D, H1 D = none → ∃ W : Nat → Nat → Hp → Prop, (∃ m, W 0 m (upd H1 D (.dK []))) ∧ ∀ i m H, W i m H →
      ((Itt K a).stop i H ∧ Qd D H) ∨ ((Itt K a).go i H ∧ ∃ Nx : Hp → Prop, (∀ H', Nx H' → ∃ m', m' < m ∧ W (i + 1) m' H') ∧ ∀ x H', (Itt K a).yld i H x H' → g x (wipe σ vs) H' fun σ2 H2 => wipe σ2 vs = wipe σ vs ∧ tt σ2 H2 fun b H3 =>
        if b = true then tk σ2 H3 fun y H4 => tv σ2 H4 fun z H5 => ∃ kvs k, y = kV k ∧ H5 D = some (.dK kvs) ∧ kvs.length < sizeLine ∧ Nx (upd H5 D (.dK (putK kvs k z))) else Nx H3)) := by
  rcases hq with hq | hq
  · exact .inl ⟨⟨_, h1.seq hq⟩, fun D hD => dc_list (Pv D) (h0 D hD) (fun i H' _ p => (hl D i H' p).seq hq) (hs D hD) fun H p => hd D H hD p⟩
  · exact .inr ⟨⟨_, sqT_on h1 hq⟩, fun D hD => dc_tup (Pv D) (h0 D hD) (fun i H' _ p => sqT_on (hl D i H' p) hq) (hs D hD) fun H p => hd D H hD p⟩
/-- o.m(k1 = a, k2 = b), the names turned round -/
def kSwap {α : Type} : List α → List α → List α
  | [u], [a, b] => [u, b, a]
  | _, _ => []
theorem kbinds_swap {K : PySem.W.Frag} {fd : FuncData} {p0 p1 p2 k1 k2 : Str} (h : ∀ (s : Shared) (u a b : Value), BindsTo s fd ⟨[u], [(k1, a), (k2, b)]⟩ [(p0, u), (p1, b), (p2, a)]) : KBinds K fd [p0, p1, p2] [k1, k2] kSwap kSwap where
  to := fun s us ws _ hl => match us, ws, hl with
    | [u], [a, b], _ => h s u a b
    | [], _, hl => by simp [kSwap] at hl
    | [_], [], hl => by simp [kSwap] at hl
    | [_], [_], hl => by simp [kSwap] at hl
    | [_], _ :: _ :: _ :: _, hl => by simp [kSwap] at hl
    | _ :: _ :: _, _, hl => by simp [kSwap] at hl
  rel := fun {vs us zs ws} r rz => match vs, us, zs, ws, r, rz with
    | [_], [_], [_, _], [_, _], .cons a .nil, .cons b (.cons c .nil) => .cons a (.cons c (.cons b .nil))
    | [], [], _, _, .nil, _ => by simp only [kSwap]; exact .nil
    | [_], [_], [], [], .cons _ .nil, .nil => .nil
    | [_], [_], [_], [_], .cons _ .nil, .cons _ .nil => .nil
    | [_], [_], _ :: _ :: _ :: _, _ :: _ :: _ :: _, .cons _ .nil, .cons _ (.cons _ (.cons _ _)) => .nil
    | _ :: _ :: _, _ :: _ :: _, _, _, .cons _ (.cons _ _), _ => by simp only [kSwap]; exact .nil
end My

/-! My own rule: sorted(xs), xs a list of tuples of three texts. -/
namespace My
open PySem PySem.Spec PyProof.Rows L2
abbrev RowB := Addr × (Str × Str × Str)
def rowE (e : Str × Str × Str) : PyData := .tuple [.str e.1, .str e.2.1, .str e.2.2]
noncomputable def rowLe : RowB → RowB → Bool := PySem.W.dataLe false fun b => rowE b.2
theorem alike_rowE (a b : Str × Str × Str) : PySem.W.alike (rowE a) (rowE b) = true := by
  unfold rowE
  simp [PySem.W.alike, PySem.W.alikeAll]
theorem depth_rowE (a : Str × Str × Str) : (rowE a).depth ≤ 1 := by
  unfold rowE
  simp [PyData.depth, PyData.depthAll]
theorem each_refs {K : PySem.W.Frag} {X : Cx} {pins : List (Addr × Obj)} {σ : L2.St} {H : Hp} {s : Shared} (I : Inv X pins σ H s) : ∀ {bs : List RowB} {us : List Value}, Vals (bs.map fun b => V.ref b.1) us → (∀ b ∈ bs, SqT X.K H b.1 [.str b.2.1, .str b.2.2.1, .str b.2.2.2]) →
    PySem.W.EachIs (fun v b => v = Value.ref b.1) us bs ∧ PySem.W.EachIs (fun v b => ∃ as, Reads s.heap v (rowE b.2) as) us bs
  | [], _, .nil, _ => ⟨.nil, .nil⟩
  | b :: bs, _, .cons r t, h => by
    have r : _ = Value.ref b.1 := r
    subst r
    obtain ⟨e1, e2⟩ := each_refs (K := K) I t fun c hc => h c (List.mem_cons_of_mem _ hc)
    exact ⟨.cons rfl e1, .cons (Dp.reads I _ (V.ref b.1) _ (.tup (h b List.mem_cons_self) (.cons (.str _) (.cons (.str _) (.cons (.str _) .nil)))) rfl) e2⟩
theorem vals_each : ∀ {us : List Value} {bs : List RowB}, PySem.W.EachIs (fun v b => v = Value.ref b.1) us bs → Vals (bs.map fun b => V.ref b.1) us
  | _, _, .nil => .nil
  | _, _, .cons h t => .cons h (vals_each t)
section
variable {X : Cx}
def rSortRows (K : PySem.W.Frag) : List V → Hp → VK → Prop := fun vs H Q => ∃ (a : Addr) (bs : List RowB), vs = [V.ref a] ∧ SqL K H a (bs.map fun b => V.ref b.1) ∧ (∀ b ∈ bs, SqT K H b.1 [.str b.2.1, .str b.2.2.1, .str b.2.2.2]) ∧
  ∀ p, H p = none → Q (.ref p) (upd H p (.lst ((bs.mergeSort rowLe).map fun b => V.ref b.1)))
theorem cr_sortRows (hu : X.A.units + 64 < cLine) : CallR X (.builtin "sorted") (rSortRows X.K) := by
  intro pins s σ H vs us Q I r h
  obtain ⟨a, bs, rfl, hs, hb, q⟩ := h
  obtain ⟨its, rv, hl, hz⟩ := I.list hs
  rw [Vals.ref1 r]
  obtain ⟨e1, e2⟩ := each_refs (K := X.K) I rv hb
  have hlen : bs.length ≤ sizeLine := by rw [List.length_map] at hz; exact hz
  refine PySem.W.sorted_data (enc := fun b : RowB => rowE b.2) hl.isList e1 e2 (PySem.W.AllAlike.of fun b b' => alike_rowE b.2 b'.2) (PySem.W.Sortable.tuples fun b => ⟨_, _, rfl⟩) hlen (fun b _ => by have := depth_rowE b.2; omega) fun out ho e3 => ?_
  obtain ⟨ep, he'⟩ := PyProof.Rows.sortedAll_at s.heap its out.toArray
  have hl2 : ((bs.mergeSort rowLe).map fun b : RowB => V.ref b.1).length ≤ sizeLine := by rw [List.length_map, (List.mergeSort_perm bs rowLe).length_eq]; exact hlen
  exact ⟨.ref _, upd H (s.heap.objs.size + 1) (.lst ((bs.mergeSort rowLe).map fun b => V.ref b.1)), I.laid (t' := s.toks) (fun _ _ => PyProof.Rows.sortedAll_old) (Nat.le_succ _) ⟨hl2, out, ep, vals_each e3, he'⟩, rfl, q _ (I.hok.fresh (Nat.le_succ _))⟩
end
end My

/-! My own rule: for i, x in enumerate(xs, start=k), xs a list, k a whole number that is written there. -/
namespace My
open PySem PySem.Spec PyProof.Rows L2
open PySem.Calls
section
variable {M : Model} {A : Around} {E : Value → Shared → Prop} {s : Shared} {env : Env}
theorem callWith_typeKw {pos : Pos} {T : String} {first : List Value} {args : List (Bool × Sem Value)} {keywords : List (Option Str × Sem Value)} {Q : Value → Shared → Prop}
    (hplain : args.any (·.1) = false) (hkw : keywords.any (·.1.isNone) = false)
    (h : wpAny M A (evalArgs (.type T) true args keywords) (fun a s₁ => wpAny M A (call (.type T) (first ++ a.pos) a.kw) Q E s₁) E s) :
    wpAny M A (callWith pos (.type T) first args keywords) Q E s := by
  unfold callWith
  refine wpAny_bind (wpAny_holding (wpAny_mono h (fun a s₁ h₁ => wpAny_bind (wpAny_standAt ?_)) fun _ _ x => x))
  simp only [hplain, hkw, Bool.or_false]
  refine wpAny_bind (wpAny_pure ?_)
  exact wpAny_bind (wpAny_mono h₁ (fun r s₂ hr => wpAny_bind (wpAny_holding (wpAny_point (wpAny_pure hr)))) fun _ _ x => x)
theorem callWith_typeKw1 {pos : Pos} {T : String} {e : Expr} {rest : List Expr} {kws : List Keyword} {Q : Value → Shared → Prop}
    (h : wpAny M A (spliced (backTo pos (starEach (e :: rest) env))) (fun vs s₁ => wpAny M A (evalAll ((backToKw pos (keywordEach kws env)).map (·.2)))
      (fun kvs s₂ => wpAny M A (call (.type T) vs (((backToKw pos (keywordEach kws env)).filterMap (·.1)).zip kvs)) Q E s₂) E s₁) E s)
    (he : backTo pos (starEach (e :: rest) env) = (false, eval e env) :: backTo pos (starEach rest env) := by rfl)
    (hplain : (backTo pos (starEach (e :: rest) env)).any (·.1) = false := by rfl)
    (hall : (backToKw pos (keywordEach kws env)).all (·.1.isSome) = true := by rfl)
    (hkw : (backToKw pos (keywordEach kws env)).any (·.1.isNone) = false := by rfl) :
    wpAny M A (callWith pos (.type T) [] (backTo pos (starEach (e :: rest) env)) (backToKw pos (keywordEach kws env))) Q E s := by
  refine callWith_typeKw hplain hkw ?_
  rw [he] at h ⊢
  exact evalArgs_kwB hall h
end
/-- a list's items from its first, each with its number, the first one's being k -/
def ItS (K : PySem.W.Frag) (a : Addr) (k : Int) : It where
  go i H := ∃ ys v, SqL K H a ys ∧ ys[i]? = some v
  yld i H v H' := ∃ (pr : Addr) (z : V), v = V.ref pr ∧ H pr = none ∧ H' = upd H pr (HO.tup [V.int (k + (i : Int)), z]) ∧ ∀ ys, SqL K H a ys → ys[i]? = some z
  stop i H := ∃ ys : List V, SqL K H a ys ∧ ys.length ≤ i
/-- the counter at c over the list's iterator at j, at its i-th turn -/
def CntAt (c j a : Addr) (k : Int) (i : Nat) (h : Heap) : Prop := c ≠ j ∧ h.IsListIter j a i ∧ ∃ last, IsEnum h c j (k + (i : Int)) last
theorem two_cells {α : Type} {p : α → Prop} {x y : α} (hx : p x) (hy : p y) : ∀ b ∈ [x, y], p b := by
  simp only [List.mem_cons, List.not_mem_nil, or_false]
  rintro b (rfl | rfl)
  · exact hx
  · exact hy
theorem turn_count {P : Program} {w : World} {K : PySem.W.Frag} {es : List Expr} {n : Nat} {ps : Pos} (a c j : Addr) (k : Int) :
    Turn P w K (.Tuple es n ps) (ItS K a k) [c, j] c (CntAt c j a k) where
  mem := List.mem_cons_self
  obj i h st := two_cells (p := fun b => ∃ o, h.get? b = some o ∧ ∀ v, o.data ≠ .cell v) ⟨_, st.2.2.choose_spec, fun _ q => nomatch q⟩ (by
    obtain ⟨o, h1, _, h2⟩ := st.2.1
    exact ⟨o, h1, fun _ q => by rw [h2] at q; nomatch q⟩)
  keep i h h' st f := ⟨st.1, st.2.1.at fun o => f j (by simp) o, st.2.2.imp fun l q => f c (by simp) _ q⟩
  item := by
    rintro X rfl rfl rfl calm i pins s σ H E I low ⟨cj, hj, l, hc⟩ ⟨ys, v, hys, hv⟩
    obtain ⟨arr, rel, lst, _⟩ := I.list hys
    obtain ⟨u, hu, ruv⟩ := rel.get hv
    have aj : a ≠ j := fun z => by
      obtain ⟨o1, g1, k1, _⟩ := hj
      obtain ⟨o2, g2, k2, _⟩ := lst.isList
      rw [z, g1] at g2
      rw [Option.some.inj g2, k2] at k1
      revert k1
      decide
    have lc := Heap.lt_size hc
    have lj : j < s.heap.objs.size := let ⟨_, q, _⟩ := hj; Heap.lt_size q
    have ca : c ≠ a := fun z => by
      obtain ⟨o2, g2, k2, _⟩ := lst.isList
      have g1 := (show s.heap.get? c = _ from hc)
      rw [z, g2] at g1
      rw [Option.some.inj g1] at k2
      exact absurd (Value.type.inj k2) (by decide)
    have la : c ∉ [j, a] := by simp [cj, ca]
    refine wpAny_pyNext_enum_itemC (Draws.list (A := X.A.in1) (I.ok.hd calm) j a aj arr.toArray) hc ⟨hj, lst.isList⟩ ?_ cj la ?_
    · have := (List.getElem?_eq_some_iff.mp hu).1
      simpa using this
    intro x h1 tk hx out st1 new sz oth
    obtain rfl : u = x := by
      have hx : arr.toArray[i]? = some x := hx
      rw [List.getElem?_toArray, hu] at hx
      exact Option.some.inj hx
    refine ⟨_, rfl, wpAny_letOwnedTupleGo_enum (s := { s with heap := h1, toks := tk + 1 }) out fun h2 cnt same => ?_⟩
    have got : h2.get? s.heap.objs.size = some { cls := .type "tuple", data := .seq #[.int (k + (i : Int)) tk, u] } := (same.2 _ (Nat.ne_of_gt lc)).trans new
    have stays : ∀ b o, b ∉ [c, j] → s.heap.get? b = some o → h2.get? b = some o := fun b o hb q => by
      simp only [List.mem_cons, List.not_mem_nil, or_false, not_or] at hb
      exact (same.2 b hb.1).trans (oth b o hb.1 hb.2 q)
    have mine : ObjOk X.prog X.w (upd H s.heap.objs.size (HO.tup [V.int (k + (i : Int)), v])) h2 s.heap.objs.size (HO.tup [V.int (k + (i : Int)), v]) := ⟨by show 2 ≤ sizeLine; decide, _, .cons ⟨_, rfl⟩ (.cons ruv .nil), ⟨_, got, rfl, _, rfl⟩⟩
    have I2 := I.turnedNew (t' := tk + 1) stays low (Nat.le_refl _) mine
    exact ⟨V.ref s.heap.objs.size, _, I2, rfl, ⟨_, v, rfl, I.hok.fresh (Nat.le_refl _), rfl, fun zs hzs => by rw [I.list_inj hzs hys]; exact hv⟩, ⟨cj, st1.1.at fun o q => (same.2 j (Ne.symm cj)).trans q, u, by rw [show k + ((i + 1 : Nat) : Int) = k + (i : Int) + 1 by omega]; exact cnt⟩, two_cells (p := fun b => (upd H s.heap.objs.size _) b = none) (by rw [upd_ne (Nat.ne_of_lt lc)]; exact (low c (by simp)).1) (by rw [upd_ne (Nat.ne_of_lt lj)]; exact (low j (by simp)).1)⟩
  done := by
    rintro X rfl rfl rfl calm i pins s σ H E I low ⟨cj, hj, l, hc⟩ ⟨ys, hys, hle⟩
    obtain ⟨arr, rel, lst, _⟩ := I.list hys
    have aj : a ≠ j := fun z => by
      obtain ⟨o1, g1, k1, _⟩ := hj
      obtain ⟨o2, g2, k2, _⟩ := lst.isList
      rw [z, g1] at g2
      rw [Option.some.inj g2, k2] at k1
      revert k1
      decide
    have over : arr.toArray[i]? = none := by
      rw [List.getElem?_toArray, List.getElem?_eq_none_iff, ← rel.length]
      exact hle
    obtain ⟨f0, f1, f2, f3, f4, f5⟩ := low j (by simp)
    have D : Draws X.prog X.w X.A.in1 j [j, a] i (fun _ _ => True) (fun m h => m = i ∧ h.IsListIter j a m ∧ h.IsList a arr.toArray) :=
      { live := fun m h st => let ⟨o, g, _⟩ := st.2.1; ⟨o, g⟩
        frame := fun m h h' st f => ⟨st.1, st.2.1.at fun o => f j (by simp) o, st.2.2.at fun o => f a (by simp) o⟩
        item := fun m _ _ _ hm st _ => absurd st.1 (Nat.ne_of_lt hm)
        done := fun s' Q' E' st hE => wpAny_nextOf_list_end (I.ok.hd calm) st.2.1 st.2.2 (by rw [st.1]; exact over) hE }
    exact wpAny_pyNext_enum_endD D hc ⟨rfl, hj, lst.isList⟩ fun h' eb => ⟨rfl, I.turned (t' := s.toks) eb f0 f1 f3 f4 f5⟩
  self A i s Q E st q := wpAny_pyIter_enum st.2.2.choose_spec q
def iEnumS (K : PySem.W.Frag) (k : Int) (ta : TA) : TI := fun σ H R => ta σ H fun vs H1 => ∃ a xs, vs = [.ref a] ∧ SqL K H1 a xs ∧ R (ItS K a k) H1
theorem pi_enumS {X : Cx} {e : Expr} {ta : TA} {p pos tpos kp cp : Pos} {elts : List Expr} {kk : Nat} {k : Int} {c : Nat} (hg : Gl X "enumerate") (hm : X.mg "enumerate" = none) (ha : PA X [e] ta) (hk0 : -(2 ^ 63) ≤ k) (hk1 : k < 2 ^ 63) (he : backTo pos (starEach [e] X.env) = (false, eval e X.env) :: backTo pos (starEach [] X.env) := by rfl) (hpl : (backTo pos (starEach [e] X.env)).any (·.1) = false := by rfl) :
    PI X (.Tuple elts kk tpos) (.Call (.Name "enumerate" p) [e] [⟨some "start", .Constant (.int k) c cp, kp⟩] pos) (iEnumS X.K k ta) := by
  refine ⟨fun pins s σ H R I h => ?_⟩
  refine wpAny_Call_Name_kw (ld_blt I hg hm boot_enumerate ?_)
  refine callWith_typeKw1 (thn (ha.run pos pins s σ H _ I h) fun us s1 ⟨vs, H1, I1, r1, q1⟩ => ?_) he hpl
  obtain ⟨a, xs, ex, hq, q⟩ := q1
  subst ex
  cases r1 with
  | cons r rr =>
    cases rr
    cases r
    obtain ⟨arr, rel, lst, _⟩ := I1.list hq
    refine kwAll_cons (thn ((pe_int (X := X)).run pins s1 σ H1 (fun x H' => x = V.int k ∧ H' = H1) I1 ⟨rfl, rfl⟩) fun u s2 ⟨y, H2, I2, ry, ey, eh⟩ => ?_)
    subst ey eh
    obtain ⟨t, rfl⟩ := ry
    refine kwAll_nil ?_
    show wpAny _ _ (call (.type "enumerate") [.ref a] [(Str.ofString "start", .int k t)]) _ _ _
    obtain ⟨arr2, rel2, lst2, _⟩ := I2.list hq
    refine enum_begins_start (begins_list a arr2.toArray) lst2.isList hk0 hk1 fun h' cnt at0 sz old => wpAny_pyIter_enum cnt ?_
    refine ⟨s2.heap.objs.size + 1, [s2.heap.objs.size + 1, s2.heap.objs.size], _, _, H2, rfl, I2.kept (t' := s2.toks) old, turn_count a (s2.heap.objs.size + 1) s2.heap.objs.size k, ⟨Nat.succ_ne_self _, ⟨_, at0, rfl, rfl⟩, _, by rw [show k + ((0 : Nat) : Int) = k from Int.add_zero k]; exact cnt⟩, ?_, q⟩
    exact two_cells (p := fun b => FpOk X pins H2 b) (I2.fpOk (Nat.le_succ _) (I2.hok.fresh (Nat.le_succ _))) (I2.fpOk (Nat.le_refl _) (I2.hok.fresh (Nat.le_refl _)))
end My

/-! My own rule: o == a text, o an instance whose class has its own __eq__. -/
namespace My
open PySem PySem.Spec PyProof.Rows L2
section
variable {X : Cx} {k : Nat} {C f : Addr} {fd : FuncData} {ps : List Str} {sp : Sp} {CX : CXT} {E : XK}
def rOS (C : Addr) (sp : Sp) (E : XK) : R2 := fun x y H Q => ∃ a dx fs z, x = .ref a ∧ y = .str z ∧ H a = some (.ins C dx fs) ∧ sp [.ref a, .str z] H Q E
theorem cmp_ownS (O : OthC X.K C f) (hn : PySem.W.subIn X.K (.type "str") (.ref C) = some false) (F : FnOk X.prog X.w X.K X.mg X.base CX k f fd ps sp) (hr : Room k X.A) (hb : Binds X.K fd ps []) (hx : Passes CX X E) : OpR X (compareOp .Eq) (rOS C sp E) := by
  intro pins s σ H x y v u Q I rx ry h
  obtain ⟨a, dx, fs, z, rfl, rfl, ea, q⟩ := h
  obtain rfl : v = Value.ref a := rx
  obtain ⟨t, rfl⟩ := ry
  obtain ⟨mA, J, _⟩ := ins_get I.hok ea
  obtain ⟨od, J, _⟩ := J.look
  obtain ⟨m, hF⟩ := I.fr
  show wpAny (model X.prog X.w) X.A (richCompare .Eq (.ref a) (.str z t)) (EP X pins σ Q) X.xe s
  refine PySem.W.cmp_K (op := .Eq) (tb := .type "str") hr.units0 hF I.ok.mod.kin J (PySem.W.Looks.of_pure rfl) ?_ O.eq O.fn ?_
  · simp [PySem.W.notFirst, hn]
  · exact wpAny_mono (run_own (vs := [V.ref a, V.str z]) F hr hb hx I (.cons rfl (.cons ⟨t, rfl⟩ .nil)) q) (fun _ _ w => back_of w) fun _ _ e => e
end
end My

set_option maxHeartbeats 2000000
/-! My own rules: a def that raises nothing called within an except suite (k not in o there); xs.append(v) within a try. -/
namespace My
open PySem PySem.Spec PyProof.Rows L2
/-- what a def that raises nothing promises, whatever is being handled -/
structure FnC (P : Program) (w : World) (K : PySem.W.Frag) (mg : Str → Option Value) (base : Heap) (k : Nat) (f : Addr) (fd : FuncData) (ps : List Str) (sp : Sp) : Prop where
  lens : ∀ vs H Q E, sp vs H Q E → vs.length = ps.length
  runs : ∀ (A : Around) (outer : List Env) (s : Shared) (H : Hp) (args : Args) (us : List Value) (vs : List V) (Q : VK), L2H.RoomH k A → Env0 P w K mg base A outer s H → BindsTo s fd args (ps.zip us) → Vals vs us → sp vs H Q E0 → codeAny (model P w) A (.call (.ref f) args) (CR CX0 outer P w H s Q E0) s
/-- the context of its body -/
def cxC (P : Program) (w : World) (K : PySem.W.Frag) (mg : Str → Option Value) (base : Heap) (N : List Str) (qual : Str) (scope : Scope) (f : Addr) (cd : Value) (A : Around) (outer : List Env) (s : Shared) (H : Hp) : Cx :=
  { cxOf CX0 P w K mg base N qual scope f cd A outer s H E0 with calm := false, xe := fun _ _ => False }
theorem inv_cold {P : Program} {w : World} {K : PySem.W.Frag} {mg : Str → Option Value} {base : Heap} {N ps : List Str} {qual : Str} {scope : Scope} {f : Addr} {cd : Value} {A : Around} {outer : List Env} {s s1 : Shared} {H : Hp} {us : List Value} {vs : List V}
    (S : FnScope N ps scope) (e : Env0 P w K mg base A outer s H) (hl : vs.length = ps.length) (r : Vals vs us)
    (x : InCallC s s.heap.objs.size (bindL (envOfC qual scope s.heap.objs.size f cd).kindOf (ps.zip us) fun _ => none) (cellsFrom (s.heap.objs.size + 1) scope.names []) (bindC (envOfC qual scope s.heap.objs.size f cd).kindOf (ps.zip us) fun _ => none) s1) :
    Inv (cxC P w K mg base N qual scope f cd A outer s H) [] (L2.start N vs) H s1 := by
  have I := inv_start (CX := CX0) (E := E0) (f := f) (cd := cd) (A := { A with handled := none }) S rfl ⟨e.frames, e.mod, e.bs, e.bsz, e.funs, e.frf, e.hok, e.bare⟩ hl r x
  have o := I.ok
  exact ⟨⟨o.mod, o.kind, o.glob, o.blt, o.above, o.inj, o.has, o.cab, (fun z => nomatch z), o.frames, o.stk, o.exf, o.bs, o.bsz, o.noex, o.exfs, o.funs, o.frf⟩, I.os, I.bare, I.base, I.loc, I.cell, I.free, I.freeC, I.pin, I.hok, I.len⟩
theorem okC {P : Program} {w : World} {K : PySem.W.Frag} {mg : Str → Option Value} {base : Heap} {x qual : Str} {st : Stmt} {f : Addr} {fd : FuncData} {N ps : List Str} {k : Nat} {sp : Sp} (F : Fun K x qual st f fd) (S : FnScope N ps (defScope st)) (len : ∀ vs H Q E, sp vs H Q E → vs.length = ps.length)
    (hbody : ∀ (cdv : Value) (A : Around) (outer : List Env) (s : Shared) (H : Hp) (vs : List V) (Q : VK), L2H.RoomH k (A.deeper (envOfC qual (defScope st) s.heap.objs.size f cdv)) → sp vs H Q E0 →
      ∃ t, PSs (cxC P w K mg base N qual (defScope st) f cdv A outer s H) (defBody st) t ∧ t { nx := fun _ H' => Q .non H', rt := Q } (L2.start N vs) H) : FnC P w K mg base (k + 1) f fd ps sp := by
  obtain ⟨oc, od, kV, doc, pm, an, cdv, ct, osl, rfl, lk, hcd⟩ := F.ex
  refine ⟨len, fun A outer s H args us vs Q room e0 hb r hs => ?_⟩
  have inK : K.In s.heap := e0.mod.kin.keeps fun b o z => (e0.bs b o z).1
  have noL : s.heap.NoLimit := e0.mod.nolimit.keeps fun b o z => (e0.bs b o z).1
  refine codeAny_call_function room.depth (inK _ _ lk) rfl S.co S.gen rfl (PySem.W.codeRec_of inK hcd) (hb _ _ _ _ ?_)
  refine wpAny_newFunctionEnv_cells S.kind (fun ⟨n, v⟩ hy => ?_) fun env he s1 x => ?_
  · rcases S.par n (List.of_mem_zip hy).1 with q | q
    · exact .inl q
    · exact .inr ⟨q, PySem.W.cellsFrom_some _ _ _ (.inl q)⟩
  subst he
  refine ⟨noL.keeps x.toInCall.keep, codeAny_func ?_⟩
  obtain ⟨t, ht, hq⟩ := hbody cdv A outer s H vs Q (room.deeper _) hs
  have I := inv_cold (f := f) (cd := cdv) (A := A) S e0 (len _ _ _ _ hs) r x
  refine wpAny_mono (ht.run [] s1 (L2.start N vs) H _ I hq) (fun fl s' h2 => ?_) fun _ _ z => z.elim
  cases fl with
  | ret u =>
    obtain ⟨v, σ', H', J, rv, q⟩ := h2
    exact ⟨v, H', J.os, J.bare, J.base, J.hok, rv, q⟩
  | next =>
    obtain ⟨σ', H', J, q⟩ := h2
    exact ⟨.non, H', J.os, J.bare, J.base, J.hok, rfl, q⟩
  | brk =>
    obtain ⟨_, _, _, q⟩ := h2
    exact q.elim
  | cont =>
    obtain ⟨_, _, _, q⟩ := h2
    exact q.elim
section
variable {X : Cx} {k : Nat} {C f : Addr} {fd : FuncData} {ps : List Str} {sp : Sp}
theorem run_cold {pins : List (Addr × Obj)} {s : Shared} {σ : L2.St} {H : Hp} {Q : VK} {us : List Value} {vs : List V} (F : FnC X.prog X.w X.K X.mg X.base k f fd ps sp) (hr : L2H.RoomH k X.A) (hb : Binds X.K fd ps [])
    (I : Inv X pins σ H s) (r : Vals vs us) (h : sp vs H Q E0) : wpAny (model X.prog X.w) X.A (call (.ref f) us) (EP X pins σ Q) X.xe s := by
  have b := hb s us I.kIn (by rw [List.append_nil, ← F.lens _ _ _ _ h]; exact r.length.symm)
  rw [List.append_nil] at b
  refine wpAny_call (codeAny_mono (F.runs X.A X.stack s H ⟨us, []⟩ us vs _ hr I.env0 b r h) fun r s' hq => ?_)
  cases r with
  | error e => exact False.elim hq
  | ok fl =>
    cases fl with
    | ret w => exact I.after hq
    | next => exact False.elim hq
    | brk => exact False.elim hq
    | cont => exact False.elim hq
theorem op_notInC (D : DunC X.K C "__contains__" f) (F : FnC X.prog X.w X.K X.mg X.base k f fd ps sp) (hr : L2H.RoomH k X.A) (hb : Binds X.K fd ps []) : OpR X (compareOp .NotIn) (rInI C sp E0 true) := by
  intro pins s σ H x y v u Q I rx ry h
  obtain ⟨p, dx, fs, rfl, ea, q⟩ := h
  obtain rfl : u = Value.ref p := ry
  obtain ⟨mA, J, _⟩ := ins_get I.hok ea
  obtain ⟨od, J, _⟩ := J.look
  obtain ⟨m, hF⟩ := I.fr
  refine PySem.W.notIn_K hF I.ok.mod.kin J D.at_ D.fn (wpAny_mono (run_cold (vs := [V.ref p, x]) F hr hb I (.cons rfl (.cons rx .nil)) q) (fun r s' hr' => ?_) fun _ _ e => e)
  obtain ⟨z, H2, I2, rz, b, ez, q2⟩ := hr'
  subst ez
  obtain rfl : r = Value.bool b := rz
  exact wpAny_truthy_bool ⟨.bl (!b), H2, I2, rfl, q2⟩
end
theorem huH {A : Around} {k : Nat} (hr : L2H.RoomH k A) : A.units + 1 < cLine := by have := hr.un; omega
theorem roomC {k : Nat} {A : Around} (r : Room k A) (h : Option Value) : L2H.RoomH k (A.mark h) := ⟨r.dp, r.un⟩
/-- xs.append(v) within a try: what it asks names the outer context's kinds -/
theorem pe_bmT {X : Cx} {pn : List (Addr × Obj)} {xe : Value → Shared → Prop} {T : String} {name : Str} {o e : Expr} {es : List Expr} {to : TE} {t : TA} {r : V → List V → Hp → VK → Prop} {apos cpos : Pos} (h : PE (X.tr pn xe) (.Call (.Attribute o name apos) (e :: es) [] cpos) (tBM (X.tr pn xe).K T r to t)) :
    PE (X.tr pn xe) (.Call (.Attribute o name apos) (e :: es) [] cpos) (tBM X.K T r to t) := h
/-- is not, of truth values -/
def rNotB : R2 := fun x y H Q => ∃ a b, x = V.bl a ∧ y = V.bl b ∧ Q (.bl (a != b)) H
theorem op_notB {X : Cx} : OpR X (compareOp .IsNot) rNotB := by
  intro pins s σ H x y v u Q I rx ry h
  obtain ⟨a, b, rfl, rfl, q⟩ := h
  obtain rfl : v = Value.bool a := rx
  obtain rfl : u = Value.bool b := ry
  exact wpAny_isNot_plain rfl (fin_bl I q (by cases a <;> cases b <;> rfl))
end My

/-! My own rule: lists != whose items are the same objects or equal data, one by one. -/
namespace My
open PySem PySem.Spec PyProof.Rows L2
/-- the same object, or equal data -/
inductive EqV (K : PySem.W.Frag) (H : Hp) : V → V → Prop
  | same (a : Addr) : EqV K H (.ref a) (.ref a)
  | data {x y : V} {d e : PyData} : Dp K H x d → Dp K H y e → SeqAt.shaped d = true → SeqAt.shaped e = true → PyData.eqv d e = true → EqV K H x y
def rNeMix (K : PySem.W.Frag) : R2 := fun x y H Q => ∃ a b xs ys, x = V.ref a ∧ y = V.ref b ∧ SqL K H a xs ∧ SqL K H b ys ∧ Paired (EqV K H) xs ys ∧ Q (.bl false) H
theorem op_neMix {X : Cx} (hu : X.A.units + 128 < cLine) : OpR X (compareOp .NotEq) (rNeMix X.K) := by
  intro pins s σ H x y v u Q I rx ry h
  obtain ⟨a, b, xs, ys, rfl, rfl, ha, hb, hp, q⟩ := h
  obtain rfl : v = Value.ref a := rx
  obtain rfl : u = Value.ref b := ry
  obtain ⟨as, ra, pa, za⟩ := I.list ha
  obtain ⟨bs, rb, pb, zb⟩ := I.list hb
  have la : as.length = xs.length := ra.length.symm
  have lb : bs.length = ys.length := rb.length.symm
  have lab : xs.length = ys.length := hp.length
  show wpAny (model X.prog X.w) X.A (richCompare .NotEq (.ref a) (.ref b)) (EP X pins σ Q) X.xe s
  refine SeqAt.RcNeAt.lists (e := fun _ => true) pa.isList pb.isList (by simp; omega) (by omega) (fun j h1 h2 => ?_) X.prog X.w _ _ (fin_bl I q (by simp))
  have i1 : j < xs.length := by simp at h1; omega
  have i2 : j < ys.length := by omega
  obtain ⟨u1, g1, r1⟩ := ra.get (List.getElem?_eq_getElem i1)
  obtain ⟨u2, g2, r2⟩ := rb.get (List.getElem?_eq_getElem i2)
  have e1 : as.toArray[j] = u1 := by
    have := (List.getElem?_eq_some_iff.mp g1).2
    simpa using this
  have e2 : bs.toArray[j] = u2 := by
    have := (List.getElem?_eq_some_iff.mp g2).2
    simpa using this
  rw [e1, e2]
  obtain ⟨y2, hy2, he⟩ := L2.paired_get hp (List.getElem?_eq_getElem i1)
  rw [List.getElem?_eq_getElem i2] at hy2
  obtain rfl := Option.some.inj hy2
  generalize hxj : xs[j] = xv at he r1
  generalize hyj : ys[j] = yv at he r2
  cases he with
  | same c =>
    obtain rfl : u1 = Value.ref c := r1
    obtain rfl : u2 = Value.ref c := r2
    exact SeqAt.EqAt.same _
  | @data _ _ d e hd hd2 sd se hq =>
    obtain ⟨_, R1⟩ := Dp.reads I d xv u1 hd r1
    obtain ⟨_, R2⟩ := Dp.reads I e yv u2 hd2 r2
    have := SeqAt.eqAt_reads d e X.A.in1 s u1 u2 _ _ R1 R2 (SeqAt.canLay_of_shaped sd) (SeqAt.canLay_of_shaped se) (SeqAt.room_of_shaped sd (by show X.A.units + 1 + 64 < cLine; omega))
    rw [hq] at this
    exact this
end My

namespace My
open PySem PySem.Spec PyProof.Rows L2
def topS (i : Nat) : Stmt := PySem.Challenge.pw_extralink_k20_line_parts.main.body.getD i (.Pass ⟨0, 0, 0, 0⟩)
abbrev s_as_ratio : Stmt := topS 13
theorem sc_as_ratio : FnScope ["value"] ["value"] (defScope s_as_ratio) := ⟨rfl, rfl, rfl, by decide +kernel, rfl, by decide +kernel, by decide +kernel⟩
abbrev s_check_corners : Stmt := topS 18
theorem sc_check_corners : FnScope ["corners", "load", "time", "before", "corner"] ["corners"] (defScope s_check_corners) := ⟨rfl, rfl, rfl, by decide +kernel, rfl, by decide +kernel, by decide +kernel⟩
abbrev s_rises_between : Stmt := topS 19
theorem sc_rises_between : FnScope ["loads", "times", "at"] ["loads", "times"] (defScope s_rises_between) := ⟨rfl, rfl, rfl, by decide +kernel, rfl, by decide +kernel, by decide +kernel⟩
abbrev s_start : Stmt := topS 24
theorem sc_start : FnScope ["_law_script", "_law_cell"] ["_law_script"] (defScope s_start) := ⟨rfl, rfl, rfl, by decide +kernel, rfl, by decide +kernel, by decide +kernel⟩
abbrev s_draw : Stmt := topS 25
theorem sc_draw : FnScope ["_law_state", "_law_size", "_law_digit", "_law_cell", "_law_one"] ["_law_state", "_law_size"] (defScope s_draw) := ⟨rfl, rfl, rfl, by decide +kernel, rfl, by decide +kernel, by decide +kernel⟩
abbrev s_low : Stmt := topS 26
theorem sc_low : FnScope ["_law_up", "_law_down", "_law_a", "_law_b"] ["_law_up", "_law_down"] (defScope s_low) := ⟨rfl, rfl, rfl, by decide +kernel, rfl, by decide +kernel, by decide +kernel⟩
abbrev s_plus : Stmt := topS 27
theorem sc_plus : FnScope ["_law_one", "_law_two"] ["_law_one", "_law_two"] (defScope s_plus) := ⟨rfl, rfl, rfl, by decide +kernel, rfl, by decide +kernel, by decide +kernel⟩
abbrev s_times : Stmt := topS 28
theorem sc_times : FnScope ["_law_one", "_law_two"] ["_law_one", "_law_two"] (defScope s_times) := ⟨rfl, rfl, rfl, by decide +kernel, rfl, by decide +kernel, by decide +kernel⟩
abbrev s_less : Stmt := topS 29
theorem sc_less : FnScope ["_law_one", "_law_two"] ["_law_one", "_law_two"] (defScope s_less) := ⟨rfl, rfl, rfl, by decide +kernel, rfl, by decide +kernel, by decide +kernel⟩
abbrev s_value : Stmt := topS 31
theorem sc_value : FnScope ["_law_state", "_law_pair", "_law_factor"] ["_law_state", "_law_pair"] (defScope s_value) := ⟨rfl, rfl, rfl, by decide +kernel, rfl, by decide +kernel, by decide +kernel⟩
abbrev s_corners : Stmt := topS 32
theorem sc_corners : FnScope ["_law_state", "_law_scale", "_law_most", "_law_bends", "_law_steep_here", "_law_k", "_law_step", "_law_rise", "_law_plan", "_law_load", "_law_time_here", "_law_fine"] ["_law_state"] (defScope s_corners) := ⟨rfl, rfl, rfl, by decide +kernel, rfl, by decide +kernel, by decide +kernel⟩
abbrev s_over : Stmt := topS 33
theorem sc_over : FnScope ["_law_one", "_law_two"] ["_law_one", "_law_two"] (defScope s_over) := ⟨rfl, rfl, rfl, by decide +kernel, rfl, by decide +kernel, by decide +kernel⟩
abbrev s_minus : Stmt := topS 34
theorem sc_minus : FnScope ["_law_one", "_law_two"] ["_law_one", "_law_two"] (defScope s_minus) := ⟨rfl, rfl, rfl, by decide +kernel, rfl, by decide +kernel, by decide +kernel⟩
abbrev s_steep : Stmt := topS 35
theorem sc_steep : FnScope ["_law_bends", "_law_rise", "_law_k"] ["_law_bends", "_law_rise", "_law_k"] (defScope s_steep) := ⟨rfl, rfl, rfl, by decide +kernel, rfl, by decide +kernel, by decide +kernel⟩
abbrev s_plain : Stmt := topS 38
theorem sc_plain : FnScope ["_law_bends", "_law_rise", "_law_kept", "_law_k"] ["_law_bends", "_law_rise"] (defScope s_plain) := ⟨rfl, rfl, rfl, by decide +kernel, rfl, by decide +kernel, by decide +kernel⟩
abbrev s_told : Stmt := topS 39
theorem sc_told : FnScope ["_law_line_here", "_law_bends", "_law_x", "_law_y"] ["_law_line_here"] (defScope s_told) := ⟨rfl, rfl, rfl, by decide +kernel, rfl, by decide +kernel, by decide +kernel⟩
abbrev s_made : Stmt := topS 40
theorem sc_made : FnScope ["_law_pairs", "_law_rise", "e"] ["_law_pairs", "_law_rise"] (defScope s_made) := ⟨rfl, rfl, rfl, by decide +kernel, rfl, by decide +kernel, by decide +kernel⟩
abbrev s_due : Stmt := topS 41
theorem sc_due : FnScope ["_law_bends", "_law_rise", "_law_pairs", "_law_given", "_law_k", "_law_load", "_law_time_here"] ["_law_bends", "_law_rise", "_law_pairs", "_law_given"] (defScope s_due) := ⟨rfl, rfl, rfl, by decide +kernel, rfl, by decide +kernel, by decide +kernel⟩
abbrev s_spoiled : Stmt := topS 42
theorem sc_spoiled : FnScope ["_law_state", "_law_bends", "_law_rise", "_law_plan", "_law_k", "_law_load", "_law_time_here", "_law_change"] ["_law_state", "_law_bends", "_law_rise"] (defScope s_spoiled) := ⟨rfl, rfl, rfl, by decide +kernel, rfl, by decide +kernel, by decide +kernel⟩
abbrev s_bent_right : Stmt := topS 43
theorem sc_bent_right : FnScope ["_law_line_here", "_law_plain_here", "_law_rise", "_law_one", "_law_two", "_law_low_here", "_law_rest", "_law_bent", "_law_x", "_law_y"] ["_law_line_here", "_law_plain_here", "_law_rise"] (defScope s_bent_right) := ⟨rfl, rfl, rfl, by decide +kernel, rfl, by decide +kernel, by decide +kernel⟩
abbrev s_law : Stmt := topS 44
theorem sc_law : FnScope ["_law_script", "_law_state", "_law_bends", "_law_rise", "_law_turn", "_law_pairs", "_law_given", "_law_passed", "_law_due_here", "_law_line_here", "_law_plain_here", "_law_same", "_law_near", "_law_other", "_law_steeper", "_law_corner", "_law_x", "_law_y", "_law_pair"] ["_law_script"] (defScope s_law) := ⟨rfl, rfl, rfl, by decide +kernel, rfl, by decide +kernel, by decide +kernel⟩
abbrev s_BadCount_init : Stmt := inClass (topS 4) 0
theorem sc_BadCount_init : FnScope ["self", "count"] ["self", "count"] (defScope s_BadCount_init) := ⟨rfl, rfl, rfl, by decide +kernel, rfl, by decide +kernel, by decide +kernel⟩
abbrev s_OutOfRange_init : Stmt := inClass (topS 5) 0
theorem sc_OutOfRange_init : FnScope ["self", "value"] ["self", "value"] (defScope s_OutOfRange_init) := ⟨rfl, rfl, rfl, by decide +kernel, rfl, by decide +kernel, by decide +kernel⟩
abbrev s_Ratio_init : Stmt := inClass (topS 12) 0
theorem sc_Ratio_init : FnScope ["self", "top", "bottom", "common"] ["self", "top", "bottom"] (defScope s_Ratio_init) := ⟨rfl, rfl, rfl, by decide +kernel, rfl, by decide +kernel, by decide +kernel⟩
abbrev s_Ratio_top : Stmt := inClass (topS 12) 2
theorem sc_Ratio_top : FnScope ["self"] ["self"] (defScope s_Ratio_top) := ⟨rfl, rfl, rfl, by decide +kernel, rfl, by decide +kernel, by decide +kernel⟩
abbrev s_Ratio_bottom : Stmt := inClass (topS 12) 3
theorem sc_Ratio_bottom : FnScope ["self"] ["self"] (defScope s_Ratio_bottom) := ⟨rfl, rfl, rfl, by decide +kernel, rfl, by decide +kernel, by decide +kernel⟩
abbrev s_Ratio_sign : Stmt := inClass (topS 12) 4
theorem sc_Ratio_sign : FnScope ["self"] ["self"] (defScope s_Ratio_sign) := ⟨rfl, rfl, rfl, by decide +kernel, rfl, by decide +kernel, by decide +kernel⟩
abbrev s_Ratio_over : Stmt := inClass (topS 12) 5
theorem sc_Ratio_over : FnScope ["self", "value", "divisor"] ["self", "value"] (defScope s_Ratio_over) := ⟨rfl, rfl, rfl, by decide +kernel, rfl, by decide +kernel, by decide +kernel⟩
abbrev s_Ratio_below : Stmt := inClass (topS 12) 6
theorem sc_Ratio_below : FnScope ["self", "value", "other"] ["self", "value"] (defScope s_Ratio_below) := ⟨rfl, rfl, rfl, by decide +kernel, rfl, by decide +kernel, by decide +kernel⟩
abbrev s_Ratio_neg : Stmt := inClass (topS 12) 7
theorem sc_Ratio_neg : FnScope ["self"] ["self"] (defScope s_Ratio_neg) := ⟨rfl, rfl, rfl, by decide +kernel, rfl, by decide +kernel, by decide +kernel⟩
abbrev s_Ratio_add : Stmt := inClass (topS 12) 8
theorem sc_Ratio_add : FnScope ["self", "other", "addend", "top"] ["self", "other"] (defScope s_Ratio_add) := ⟨rfl, rfl, rfl, by decide +kernel, rfl, by decide +kernel, by decide +kernel⟩
abbrev s_Ratio_sub : Stmt := inClass (topS 12) 10
theorem sc_Ratio_sub : FnScope ["self", "other"] ["self", "other"] (defScope s_Ratio_sub) := ⟨rfl, rfl, rfl, by decide +kernel, rfl, by decide +kernel, by decide +kernel⟩
abbrev s_Ratio_eq : Stmt := inClass (topS 12) 14
theorem sc_Ratio_eq : FnScope ["self", "other"] ["self", "other"] (defScope s_Ratio_eq) := ⟨rfl, rfl, rfl, by decide +kernel, rfl, by decide +kernel, by decide +kernel⟩
abbrev s_Line_init : Stmt := inClass (topS 17) 0
theorem sc_Line_init : FnScope ["self", "corners", "slope", "loads", "times", "rises", "bends", "corner", "at"] ["self", "corners", "slope"] (defScope s_Line_init) := ⟨rfl, rfl, rfl, by decide +kernel, rfl, by decide +kernel, by decide +kernel⟩
abbrev s_Line_corners : Stmt := inClass (topS 17) 2
theorem sc_Line_corners : FnScope ["self"] ["self"] (defScope s_Line_corners) := ⟨rfl, rfl, rfl, by decide +kernel, rfl, by decide +kernel, by decide +kernel⟩
abbrev s_Line_slope : Stmt := inClass (topS 17) 3
theorem sc_Line_slope : FnScope ["self"] ["self"] (defScope s_Line_slope) := ⟨rfl, rfl, rfl, by decide +kernel, rfl, by decide +kernel, by decide +kernel⟩
abbrev s_Line_eq : Stmt := inClass (topS 17) 13
theorem sc_Line_eq : FnScope ["self", "other"] ["self", "other"] (defScope s_Line_eq) := ⟨rfl, rfl, rfl, by decide +kernel, rfl, by decide +kernel, by decide +kernel⟩
set_option maxHeartbeats 0 in
structure Txt (K : PySem.W.Frag) (mg : Str → Option Value) where
  f_BadCount : Addr
  m_BadCount : mg "BadCount" = some (.ref f_BadCount)
  f_OutOfRange : Addr
  m_OutOfRange : mg "OutOfRange" = some (.ref f_OutOfRange)
  f_Ratio : Addr
  m_Ratio : mg "Ratio" = some (.ref f_Ratio)
  cl_Ratio : Cls K f_Ratio
  ic_Ratio : C8.InsC K f_Ratio
  na_Ratio_top : NoAttr K f_Ratio "_top"
  na_Ratio_bottom : NoAttr K f_Ratio "_bottom"
  sn_Ratio_int : PySem.W.subIn K (.type "int") (.ref f_Ratio) = some false
  ki_Ratio_int : PySem.W.kitOne K (.type "int") (.ref f_Ratio) = some false
  f_Line : Addr
  m_Line : mg "Line" = some (.ref f_Line)
  cl_Line : Cls K f_Line
  ic_Line : C8.InsC K f_Line
  na_Line_loads : NoAttr K f_Line "_loads"
  na_Line_times : NoAttr K f_Line "_times"
  na_Line_rises : NoAttr K f_Line "_rises"
  sn_Line_int : PySem.W.subIn K (.type "int") (.ref f_Line) = some false
  ki_Line_int : PySem.W.kitOne K (.type "int") (.ref f_Line) = some false
  f_ExtralinkError : Addr
  m_ExtralinkError : mg "ExtralinkError" = some (.ref f_ExtralinkError)
  f_as_ratio : Addr
  d_as_ratio : FuncData
  F_as_ratio : Fun K "as_ratio" "as_ratio" s_as_ratio f_as_ratio d_as_ratio
  b_as_ratio : Binds K d_as_ratio ["value"] []
  m_as_ratio : mg "as_ratio" = some (.ref f_as_ratio)
  f_check_corners : Addr
  d_check_corners : FuncData
  F_check_corners : Fun K "check_corners" "check_corners" s_check_corners f_check_corners d_check_corners
  b_check_corners : Binds K d_check_corners ["corners"] []
  m_check_corners : mg "check_corners" = some (.ref f_check_corners)
  f_rises_between : Addr
  d_rises_between : FuncData
  F_rises_between : Fun K "rises_between" "rises_between" s_rises_between f_rises_between d_rises_between
  b_rises_between : Binds K d_rises_between ["loads", "times"] []
  m_rises_between : mg "rises_between" = some (.ref f_rises_between)
  f_start : Addr
  d_start : FuncData
  F_start : Fun K "_law_start" "_law_start" s_start f_start d_start
  b_start : Binds K d_start ["_law_script"] []
  m_start : mg "_law_start" = some (.ref f_start)
  f_draw : Addr
  d_draw : FuncData
  F_draw : Fun K "_law_draw" "_law_draw" s_draw f_draw d_draw
  b_draw : Binds K d_draw ["_law_state", "_law_size"] []
  m_draw : mg "_law_draw" = some (.ref f_draw)
  f_low : Addr
  d_low : FuncData
  F_low : Fun K "_law_low" "_law_low" s_low f_low d_low
  b_low : Binds K d_low ["_law_up", "_law_down"] []
  m_low : mg "_law_low" = some (.ref f_low)
  f_plus : Addr
  d_plus : FuncData
  F_plus : Fun K "_law_plus" "_law_plus" s_plus f_plus d_plus
  b_plus : Binds K d_plus ["_law_one", "_law_two"] []
  m_plus : mg "_law_plus" = some (.ref f_plus)
  f_times : Addr
  d_times : FuncData
  F_times : Fun K "_law_times" "_law_times" s_times f_times d_times
  b_times : Binds K d_times ["_law_one", "_law_two"] []
  m_times : mg "_law_times" = some (.ref f_times)
  f_less : Addr
  d_less : FuncData
  F_less : Fun K "_law_less" "_law_less" s_less f_less d_less
  b_less : Binds K d_less ["_law_one", "_law_two"] []
  m_less : mg "_law_less" = some (.ref f_less)
  f_value : Addr
  d_value : FuncData
  F_value : Fun K "_law_value" "_law_value" s_value f_value d_value
  b_value : Binds K d_value ["_law_state", "_law_pair"] []
  m_value : mg "_law_value" = some (.ref f_value)
  f_corners : Addr
  d_corners : FuncData
  F_corners : Fun K "_law_corners" "_law_corners" s_corners f_corners d_corners
  b_corners : Binds K d_corners ["_law_state"] []
  m_corners : mg "_law_corners" = some (.ref f_corners)
  f_over : Addr
  d_over : FuncData
  F_over : Fun K "_law_over" "_law_over" s_over f_over d_over
  b_over : Binds K d_over ["_law_one", "_law_two"] []
  m_over : mg "_law_over" = some (.ref f_over)
  f_minus : Addr
  d_minus : FuncData
  F_minus : Fun K "_law_minus" "_law_minus" s_minus f_minus d_minus
  b_minus : Binds K d_minus ["_law_one", "_law_two"] []
  m_minus : mg "_law_minus" = some (.ref f_minus)
  f_steep : Addr
  d_steep : FuncData
  F_steep : Fun K "_law_steep" "_law_steep" s_steep f_steep d_steep
  b_steep : Binds K d_steep ["_law_bends", "_law_rise", "_law_k"] []
  m_steep : mg "_law_steep" = some (.ref f_steep)
  f_plain : Addr
  d_plain : FuncData
  F_plain : Fun K "_law_plain" "_law_plain" s_plain f_plain d_plain
  b_plain : Binds K d_plain ["_law_bends", "_law_rise"] []
  m_plain : mg "_law_plain" = some (.ref f_plain)
  f_told : Addr
  d_told : FuncData
  F_told : Fun K "_law_told" "_law_told" s_told f_told d_told
  b_told : Binds K d_told ["_law_line_here"] []
  m_told : mg "_law_told" = some (.ref f_told)
  f_made : Addr
  d_made : FuncData
  F_made : Fun K "_law_made" "_law_made" s_made f_made d_made
  b_made : Binds K d_made ["_law_pairs", "_law_rise"] []
  m_made : mg "_law_made" = some (.ref f_made)
  f_due : Addr
  d_due : FuncData
  F_due : Fun K "_law_due" "_law_due" s_due f_due d_due
  b_due : Binds K d_due ["_law_bends", "_law_rise", "_law_pairs", "_law_given"] []
  m_due : mg "_law_due" = some (.ref f_due)
  f_spoiled : Addr
  d_spoiled : FuncData
  F_spoiled : Fun K "_law_spoiled" "_law_spoiled" s_spoiled f_spoiled d_spoiled
  b_spoiled : Binds K d_spoiled ["_law_state", "_law_bends", "_law_rise"] []
  m_spoiled : mg "_law_spoiled" = some (.ref f_spoiled)
  f_bent_right : Addr
  d_bent_right : FuncData
  F_bent_right : Fun K "_law_bent_right" "_law_bent_right" s_bent_right f_bent_right d_bent_right
  b_bent_right : Binds K d_bent_right ["_law_line_here", "_law_plain_here", "_law_rise"] []
  m_bent_right : mg "_law_bent_right" = some (.ref f_bent_right)
  f_BadCount_init : Addr
  d_BadCount_init : FuncData
  F_BadCount_init : Fun K "__init__" "BadCount.__init__" s_BadCount_init f_BadCount_init d_BadCount_init
  b_BadCount_init : Binds K d_BadCount_init ["self", "count"] []
  a_BadCount_init : PySem.W.findIn K (.ref f_BadCount) "__init__" = some (some (.ref f_BadCount_init))
  i_BadCount_init : PySem.W.isFn K (.ref f_BadCount_init) = true
  f_OutOfRange_init : Addr
  d_OutOfRange_init : FuncData
  F_OutOfRange_init : Fun K "__init__" "OutOfRange.__init__" s_OutOfRange_init f_OutOfRange_init d_OutOfRange_init
  b_OutOfRange_init : Binds K d_OutOfRange_init ["self", "value"] []
  a_OutOfRange_init : PySem.W.findIn K (.ref f_OutOfRange) "__init__" = some (some (.ref f_OutOfRange_init))
  i_OutOfRange_init : PySem.W.isFn K (.ref f_OutOfRange_init) = true
  f_Ratio_init : Addr
  d_Ratio_init : FuncData
  F_Ratio_init : FunD K "__init__" "Ratio.__init__" (defArgs s_Ratio_init) (defBody s_Ratio_init) (defScope s_Ratio_init) [V.int 1] [] f_Ratio_init d_Ratio_init
  a_Ratio_init : PySem.W.findIn K (.ref f_Ratio) "__init__" = some (some (.ref f_Ratio_init))
  i_Ratio_init : PySem.W.isFn K (.ref f_Ratio_init) = true
  mk_Ratio : Mk K f_Ratio f_Ratio_init
  f_Ratio_top : Addr
  d_Ratio_top : FuncData
  F_Ratio_top : Fun K "top" "Ratio.top" s_Ratio_top f_Ratio_top d_Ratio_top
  b_Ratio_top : Binds K d_Ratio_top ["self"] []
  p0_Ratio_top : Addr
  p_Ratio_top : PropOf K f_Ratio "top" p0_Ratio_top f_Ratio_top
  f_Ratio_bottom : Addr
  d_Ratio_bottom : FuncData
  F_Ratio_bottom : Fun K "bottom" "Ratio.bottom" s_Ratio_bottom f_Ratio_bottom d_Ratio_bottom
  b_Ratio_bottom : Binds K d_Ratio_bottom ["self"] []
  p0_Ratio_bottom : Addr
  p_Ratio_bottom : PropOf K f_Ratio "bottom" p0_Ratio_bottom f_Ratio_bottom
  f_Ratio_sign : Addr
  d_Ratio_sign : FuncData
  F_Ratio_sign : Fun K "sign" "Ratio.sign" s_Ratio_sign f_Ratio_sign d_Ratio_sign
  b_Ratio_sign : Binds K d_Ratio_sign ["self"] []
  p0_Ratio_sign : Addr
  p_Ratio_sign : PropOf K f_Ratio "sign" p0_Ratio_sign f_Ratio_sign
  f_Ratio_over : Addr
  d_Ratio_over : FuncData
  F_Ratio_over : Fun K "over" "Ratio.over" s_Ratio_over f_Ratio_over d_Ratio_over
  b_Ratio_over : Binds K d_Ratio_over ["self", "value"] []
  a_Ratio_over : PySem.W.findIn K (.ref f_Ratio) "over" = some (some (.ref f_Ratio_over))
  i_Ratio_over : PySem.W.isFn K (.ref f_Ratio_over) = true
  f_Ratio_below : Addr
  d_Ratio_below : FuncData
  F_Ratio_below : Fun K "below" "Ratio.below" s_Ratio_below f_Ratio_below d_Ratio_below
  b_Ratio_below : Binds K d_Ratio_below ["self", "value"] []
  a_Ratio_below : PySem.W.findIn K (.ref f_Ratio) "below" = some (some (.ref f_Ratio_below))
  i_Ratio_below : PySem.W.isFn K (.ref f_Ratio_below) = true
  f_Ratio_neg : Addr
  d_Ratio_neg : FuncData
  F_Ratio_neg : Fun K "__neg__" "Ratio.__neg__" s_Ratio_neg f_Ratio_neg d_Ratio_neg
  b_Ratio_neg : Binds K d_Ratio_neg ["self"] []
  a_Ratio_neg : PySem.W.findIn K (.ref f_Ratio) "__neg__" = some (some (.ref f_Ratio_neg))
  i_Ratio_neg : PySem.W.isFn K (.ref f_Ratio_neg) = true
  f_Ratio_add : Addr
  d_Ratio_add : FuncData
  F_Ratio_add : Fun K "__add__" "Ratio.__add__" s_Ratio_add f_Ratio_add d_Ratio_add
  b_Ratio_add : Binds K d_Ratio_add ["self", "other"] []
  a_Ratio_add : PySem.W.findIn K (.ref f_Ratio) "__add__" = some (some (.ref f_Ratio_add))
  i_Ratio_add : PySem.W.isFn K (.ref f_Ratio_add) = true
  f_Ratio_sub : Addr
  d_Ratio_sub : FuncData
  F_Ratio_sub : Fun K "__sub__" "Ratio.__sub__" s_Ratio_sub f_Ratio_sub d_Ratio_sub
  b_Ratio_sub : Binds K d_Ratio_sub ["self", "other"] []
  a_Ratio_sub : PySem.W.findIn K (.ref f_Ratio) "__sub__" = some (some (.ref f_Ratio_sub))
  i_Ratio_sub : PySem.W.isFn K (.ref f_Ratio_sub) = true
  f_Ratio_eq : Addr
  d_Ratio_eq : FuncData
  F_Ratio_eq : Fun K "__eq__" "Ratio.__eq__" s_Ratio_eq f_Ratio_eq d_Ratio_eq
  b_Ratio_eq : Binds K d_Ratio_eq ["self", "other"] []
  a_Ratio_eq : PySem.W.findIn K (.ref f_Ratio) "__eq__" = some (some (.ref f_Ratio_eq))
  i_Ratio_eq : PySem.W.isFn K (.ref f_Ratio_eq) = true
  f_Line_init : Addr
  d_Line_init : FuncData
  F_Line_init : Fun K "__init__" "Line.__init__" s_Line_init f_Line_init d_Line_init
  b_Line_init : Binds K d_Line_init ["self", "corners", "slope"] []
  a_Line_init : PySem.W.findIn K (.ref f_Line) "__init__" = some (some (.ref f_Line_init))
  i_Line_init : PySem.W.isFn K (.ref f_Line_init) = true
  mk_Line : Mk K f_Line f_Line_init
  f_Line_corners : Addr
  d_Line_corners : FuncData
  F_Line_corners : Fun K "corners" "Line.corners" s_Line_corners f_Line_corners d_Line_corners
  b_Line_corners : Binds K d_Line_corners ["self"] []
  p0_Line_corners : Addr
  p_Line_corners : PropOf K f_Line "corners" p0_Line_corners f_Line_corners
  f_Line_slope : Addr
  d_Line_slope : FuncData
  F_Line_slope : Fun K "slope" "Line.slope" s_Line_slope f_Line_slope d_Line_slope
  b_Line_slope : Binds K d_Line_slope ["self"] []
  p0_Line_slope : Addr
  p_Line_slope : PropOf K f_Line "slope" p0_Line_slope f_Line_slope
  f_Line_eq : Addr
  d_Line_eq : FuncData
  F_Line_eq : Fun K "__eq__" "Line.__eq__" s_Line_eq f_Line_eq d_Line_eq
  b_Line_eq : Binds K d_Line_eq ["self", "other"] []
  a_Line_eq : PySem.W.findIn K (.ref f_Line) "__eq__" = some (some (.ref f_Line_eq))
  i_Line_eq : PySem.W.isFn K (.ref f_Line_eq) = true
  me_Ratio_over : Meth K f_Ratio "over" f_Ratio_over
  me_Ratio_below : Meth K f_Ratio "below" f_Ratio_below
  f_Ratio_radd : Addr
  op_Ratio_add : OpO K f_Ratio "add" f_Ratio_add f_Ratio_radd
  f_Ratio_rsub : Addr
  op_Ratio_sub : OpO K f_Ratio "sub" f_Ratio_sub f_Ratio_rsub
  f_Ratio_mul : Addr
  f_Ratio_rmul : Addr
  op_Ratio_mul : OpO K f_Ratio "mul" f_Ratio_mul f_Ratio_rmul
  oth_Ratio : OthC K f_Ratio f_Ratio_eq
  none_Ratio : NoNe K f_Ratio f_Ratio_eq
  oth_Line : OthC K f_Line f_Line_eq
  none_Line : NoNe K f_Line f_Line_eq
  kb_Line_init_slope_corners : KBn K d_Line_init ["self", "corners", "slope"] (0 + 1) ["slope", "corners"] (fun us ws => us ++ permL [1, 0] ws) (fun vs zs => vs ++ permL [1, 0] zs)
  noi_Ratio_add : NoI K f_Ratio "add"
  noi_Ratio_sub : NoI K f_Ratio "sub"
  noi_Ratio_mul : NoI K f_Ratio "mul"
  e1_Ratio_init : List Value
  v1_Ratio_init : Vals [V.int 1] e1_Ratio_init
  b1_Ratio_init : Binds K d_Ratio_init ["self", "top", "bottom"] e1_Ratio_init
  e2_Ratio_init : List Value
  v2_Ratio_init : Vals [] e2_Ratio_init
  b2_Ratio_init : Binds K d_Ratio_init ["self", "top", "bottom"] e2_Ratio_init
  ox_BadCount : OexC K f_BadCount
  ix_BadCount : PySem.W.findIn K (.ref f_BadCount) "__init__" = some (some (.ref f_BadCount_init))
  tx_BadCount : PySem.W.typeIn K (.ref f_BadCount_init) = some (.type "function")
  xf_BadCount : XfC K f_BadCount
  ec_BadCount : ExcC K f_BadCount
  no_BadCount_count : PySem.W.findIn K (.ref f_BadCount) "count" = some none
  ox_OutOfRange : OexC K f_OutOfRange
  ix_OutOfRange : PySem.W.findIn K (.ref f_OutOfRange) "__init__" = some (some (.ref f_OutOfRange_init))
  tx_OutOfRange : PySem.W.typeIn K (.ref f_OutOfRange_init) = some (.type "function")
  xf_OutOfRange : XfC K f_OutOfRange
  ec_OutOfRange : ExcC K f_OutOfRange
  no_OutOfRange_value : PySem.W.findIn K (.ref f_OutOfRange) "value" = some none
  es_BadCount_BadCount : PySem.W.subIn K (.ref f_BadCount) (.ref f_BadCount) = some true
  xi_BadCount_BadCount : PySem.W.isClsIn K f_BadCount = true
  xt_BadCount_BadCount : PySem.W.typeIn K (.ref f_BadCount) = some (.type "type")
  es_OutOfRange_BadCount : PySem.W.subIn K (.ref f_OutOfRange) (.ref f_BadCount) = some false
  neq_OutOfRange_BadCount : Value.ref f_OutOfRange ≠ Value.ref f_BadCount
  xi_OutOfRange_BadCount : PySem.W.isClsIn K f_BadCount = true
  xt_OutOfRange_BadCount : PySem.W.typeIn K (.ref f_BadCount) = some (.type "type")
  es_OutOfRange_OutOfRange : PySem.W.subIn K (.ref f_OutOfRange) (.ref f_OutOfRange) = some true
  xi_OutOfRange_OutOfRange : PySem.W.isClsIn K f_OutOfRange = true
  xt_OutOfRange_OutOfRange : PySem.W.typeIn K (.ref f_OutOfRange) = some (.type "type")
  es_OutOfRange_ExtralinkError : PySem.W.subIn K (.ref f_OutOfRange) (.ref f_ExtralinkError) = some true
  neq_OutOfRange_ExtralinkError : Value.ref f_OutOfRange ≠ Value.ref f_ExtralinkError
  xi_OutOfRange_ExtralinkError : PySem.W.isClsIn K f_ExtralinkError = true
  xt_OutOfRange_ExtralinkError : PySem.W.typeIn K (.ref f_ExtralinkError) = some (.type "type")
  g_gcd : mg "gcd" = some (.builtin "math.gcd")
  n_abs : mg "abs" = none
  n_int : mg "int" = none
  n_isinstance : mg "isinstance" = none
  n_len : mg "len" = none
  n_list : mg "list" = none
  n_max : mg "max" = none
  n_range : mg "range" = none
  n_tuple : mg "tuple" = none
  n_zip : mg "zip" = none
/-! ### the law's own draws: a list of great numbers, a list of cells, a count -/
section
variable {P : Program} {w : World} {K : PySem.W.Frag} {mg : Str → Option Value} {base : Heap}
/-- the state's objects as they stand; G is what else is known, the state is none of it -/
structure DS (G H : Hp) (s b c : Addr) (gs cs : List Int) (n : Nat) : Prop where
  same : Same G H
  fs : G s = none
  fb : G b = none
  fc : G c = none
  hs : H s = some (.lst [.ref b, .ref c, .int (n : Int)])
  hb : H b = some (.lst (gs.map V.int))
  hc : H c = some (.lst (cs.map V.int))
  ne : b ≠ c
  pos : 0 < cs.length
theorem DS.sb {G H : Hp} {s b c : Addr} {gs cs : List Int} {n : Nat} (d : DS G H s b c gs cs n) : s ≠ b := ne_of d.hs d.hb (by cases gs <;> simp)
theorem DS.sc {G H : Hp} {s b c : Addr} {gs cs : List Int} {n : Nat} (d : DS G H s b c gs cs n) : s ≠ c := ne_of d.hs d.hc (by cases cs <;> simp)
/-- at most m draws were made -/
def DSt (G H : Hp) (s : Addr) (m : Nat) : Prop := ∃ (b c : Addr) (gs cs : List Int) (n : Nat), DS G H s b c gs cs n ∧ n ≤ m
theorem DSt.same {G H : Hp} {s : Addr} {m : Nat} (d : DSt G H s m) : Same G H := let ⟨_, _, _, _, _, d, _⟩ := d; d.same
theorem DSt.mono {G H : Hp} {s : Addr} {m m' : Nat} (d : DSt G H s m) (h : m ≤ m') : DSt G H s m' := let ⟨b, c, gs, cs, n, d, hn⟩ := d; ⟨b, c, gs, cs, n, d, Nat.le_trans hn h⟩
/-- a new object comes beside, known from then on -/
theorem DSt.new {G H : Hp} {s : Addr} {m : Nat} {p : Addr} {o : HO} (d : DSt G H s m) (hp : H p = none) : DSt (upd G p o) (upd H p o) s m := by
  obtain ⟨b, c, gs, cs, n, d, hn⟩ := d
  have n1 : s ≠ p := ne_of_none d.hs hp
  have n2 : b ≠ p := ne_of_none d.hb hp
  have n3 : c ≠ p := ne_of_none d.hc hp
  refine ⟨b, c, gs, cs, n, ⟨fun a u e => ?_, ?_, ?_, ?_, ?_, ?_, ?_, d.ne, d.pos⟩, hn⟩
  · by_cases ha : a = p
    · subst ha; rw [upd_same] at e ⊢; exact e
    · rw [upd_ne ha] at e ⊢; exact d.same a u e
  · rw [upd_ne n1]; exact d.fs
  · rw [upd_ne n2]; exact d.fb
  · rw [upd_ne n3]; exact d.fc
  · rw [upd_ne n1]; exact d.hs
  · rw [upd_ne n2]; exact d.hb
  · rw [upd_ne n3]; exact d.hc
/-- a known object changes -/
theorem DSt.put {G H : Hp} {s : Addr} {m : Nat} {p : Addr} {o u : HO} (d : DSt G H s m) (hp : G p = some u) : DSt (upd G p o) (upd H p o) s m := by
  obtain ⟨b, c, gs, cs, n, d, hn⟩ := d
  have n1 : s ≠ p := fun e => by rw [← e, d.fs] at hp; cases hp
  have n2 : b ≠ p := fun e => by rw [← e, d.fb] at hp; cases hp
  have n3 : c ≠ p := fun e => by rw [← e, d.fc] at hp; cases hp
  refine ⟨b, c, gs, cs, n, ⟨fun a v e => ?_, ?_, ?_, ?_, ?_, ?_, ?_, d.ne, d.pos⟩, hn⟩
  · by_cases ha : a = p
    · subst ha; rw [upd_same] at e ⊢; exact e
    · rw [upd_ne ha] at e ⊢; exact d.same a v e
  · rw [upd_ne n1]; exact d.fs
  · rw [upd_ne n2]; exact d.fb
  · rw [upd_ne n3]; exact d.fc
  · rw [upd_ne n1]; exact d.hs
  · rw [upd_ne n2]; exact d.hb
  · rw [upd_ne n3]; exact d.hc
/-- what else is known of the heap may be less, the rest may be more -/
theorem DSt.less {G G' H : Hp} {s : Addr} {m : Nat} (d : DSt G H s m) (h : Same G' G) : DSt G' H s m := by
  obtain ⟨b, c, gs, cs, n, d, hn⟩ := d
  have fr : ∀ a, G a = none → G' a = none := fun a e => h.free e
  exact ⟨b, c, gs, cs, n, ⟨h.trans d.same, fr _ d.fs, fr _ d.fb, fr _ d.fc, d.hs, d.hb, d.hc, d.ne, d.pos⟩, hn⟩
/-- all that stands behind stays; known is what was known -/
theorem DSt.on {G H H' : Hp} {s : Addr} {m : Nat} (d : DSt G H s m) (h : Same H H') : DSt G H' s m := by
  obtain ⟨b, c, gs, cs, n, d, hn⟩ := d
  exact ⟨b, c, gs, cs, n, ⟨d.same.trans h, d.fs, d.fb, d.fc, h _ _ d.hs, h _ _ d.hb, h _ _ d.hc, d.ne, d.pos⟩, hn⟩
theorem DSt.free {G H : Hp} {s : Addr} {m : Nat} {p : Addr} (d : DSt G H s m) (hp : H p = none) : G p = none := d.same.free hp

def spStart (K : PySem.W.Frag) : Sp := fun vs H Q _ => ∃ (a : Addr) (ns : List Int), vs = [.ref a] ∧ SqL K H a (ns.map V.int) ∧ ns.length ≤ 63 ∧ ∀ (s : Addr) (H' : Hp), DSt H H' s 0 → Q (.ref s) H'
def spDraw : Sp := fun vs H Q _ => ∃ (G : Hp) (s : Addr) (m : Nat) (sz : Int), vs = [.ref s, .int sz] ∧ DSt G H s m ∧ m < 1000000 ∧ 0 < sz ∧ sz < 2 ^ 200 ∧
  ∀ (r : Int) (H' : Hp), 0 ≤ r → r < sz → DSt G H' s (m + 1) → Q (.int r) H'

theorem take_more {α : Type} : ∀ {l : List α} {i : Nat} {x : α}, l[i]? = some x → l.take (i + 1) = l.take i ++ [x]
  | [], i, x, h => by simp at h
  | a :: l, 0, x, h => by
    have e : a = x := Option.some.inj h
    subst e
    rfl
  | a :: l, i + 1, x, h => by
    have ih := take_more (l := l) (i := i) (x := x) h
    show a :: l.take (i + 1) = a :: l.take i ++ [x]
    rw [ih]
    rfl
theorem pow_lt (c n : Int) (hc : 0 ≤ c) (hc2 : c < 2147483647) (hn : 0 ≤ n) (hn2 : n ≤ 1000001) : (c * 48271 + n * 69621 + 7).natAbs < 2 ^ 64 := by omega
theorem pow_lt2 (c n : Int) (hc : 0 ≤ c) (hc2 : c < 2147483647) (hn : 0 ≤ n) (hn2 : n ≤ 1000001) : (c * 16807 + n * 40692 + 13).natAbs < 2 ^ 64 := by omega

theorem cut1 (xs : List V) : cutV xs (some 1) none = xs.drop 1 := by
  unfold cutV
  rw [show HT.sIx xs.length 0 (some 1) = min 1 xs.length from HT.sIx_nat xs.length 0 1, HT.sIx_none]
  cases xs with
  | nil => rfl
  | cons x r =>
    rw [show min 1 (x :: r).length = 1 by
      rw [List.length_cons]
      omega]
    show (List.take ((x :: r).length - 1) r) = r
    rw [List.length_cons, Nat.add_sub_cancel]
    exact List.take_length
theorem big1 : (0 : Int) < 2147483647 := by decide
theorem big2 : (0 : Int) < 2147483629 := by decide
theorem ok_start (T : Txt K mg) : FnOk P w K mg base CX0 1 T.f_start T.d_start ["_law_script"] (spStart K) := by
  refine T.F_start.ok sc_start (fun vs H Q E h => ?_) (fun cdv A outer s H vs Q E hr h => ?_)
  · obtain ⟨a, ns, rfl, _⟩ := h
    rfl
  · obtain ⟨a, ns, rfl, hS, hlen, k⟩ := h
    refine ⟨_, (pss_one (ps_ret (pe_lst (pa_cons (pe_lc (own := [("_law_cell", 1)]) (g := gName 1) rfl sc_start.nd (pi_list (pv 0)) (blkOk_by (N := ["_law_script", "_law_cell"]) (sc := defScope s_start) (by decide +kernel)) (fun _ _ _ _ _ => pg_name (i := 1) sc_start.nd rfl (Or.inl rfl)) (fun _ _ _ _ _ => pts_one (pt_cmpR op_ge (pe_callB call_abs (by rfl) T.n_abs (by decide +kernel) (pa_cons (pv 1) pa_nil)) (pe_op op_pow pe_int pe_int) (nomark _))) (fun _ _ _ _ _ => (pe_callB call_abs (by rfl) T.n_abs (by decide +kernel) (pa_cons (pv 1) pa_nil)))) (pa_cons (pe_op op_cat (pe_callTy call_list_of (by rfl) T.n_list (by decide +kernel) (pa_cons (pv 0) pa_nil)) (pe_lst (pa_cons pe_int pa_nil))) (pa_cons pe_int pa_nil)))))), ?_⟩
    refine ⟨_, rfl, a, rfl, ⟨_, hS⟩, fun D hD => ?_⟩
    refine lc_list (K := K) (a := a) (xs := ns.map V.int) (fun i H1 => ∃ gs : List Int, gs.length ≤ i ∧ H1 D = some (.lst (gs.map V.int)) ∧ Same H H1) ⟨[], Nat.le_refl _, upd_same, same_upd hD⟩ (fun i H1 _ ⟨_, _, _, sm⟩ => sm.seq hS) ?_ ?_
    · intro i x H1 hi ⟨gs, hg, eD, sm⟩
      obtain ⟨z, rfl⟩ : ∃ z, x = V.int z := by
        rw [List.getElem?_map] at hi
        cases e : ns[i]? with
        | none =>
          rw [e] at hi
          cases hi
        | some z =>
          rw [e] at hi
          exact ⟨z, (Option.some.inj hi).symm⟩
      have hi63 : i < 63 := by
        have := (List.getElem?_eq_some_iff.mp hi).1
        rw [List.length_map] at this
        omega
      refine ⟨rfl, _, rfl, z, rfl, 10, 18, rfl, rfl, ⟨by decide, by decide, by decide⟩, _, _, rfl, rfl, _, rfl, ?_⟩
      refine ite2 (fun _ => ?_) fun _ => ?_
      · refine ⟨_, rfl, z, rfl, gs.map V.int, eD, small1000 (by rw [List.length_map]; omega), gs ++ [if z < 0 then -z else z], by rw [List.length_append]; exact Nat.add_le_add_right hg 1, ?_, same_mut sm hD⟩
        rw [upd_same, List.map_append]
        rfl
      · exact ⟨gs, Nat.le_succ_of_le hg, eD, sm⟩
    · intro H1 ⟨gs, hg, eD, sm⟩
      refine ⟨_, rfl, a, _, rfl, .inl (sm.seq hS), fun l hl => ?_⟩
      refine ⟨by show 1 ≤ sizeLine; decide, fun o ho => ?_⟩
      have nlo : l ≠ o := fun e => by
        rw [← e, upd_same] at ho
        cases ho
      refine ⟨l, o, _, _, rfl, rfl, by rw [upd_ne nlo]; exact upd_same, upd_same, Nat.le_of_lt (small1000 ?_), fun c hc => ?_⟩
      · rw [List.length_map]
        show ns.length + 1 ≤ 1000
        omega
      refine ⟨by show 3 ≤ sizeLine; decide, fun st hst => ?_⟩
      have eDo : (upd (upd H1 l (.lst (ns.map V.int))) o (.lst [V.int 5])) D = some (.lst (gs.map V.int)) := same_upd ho _ _ (same_upd hl _ _ eD)
      have nDc : D ≠ c := ne_of_none eDo hc
      have hcs := hst
      have ncst : c ≠ st := fun e => by
        rw [← e, upd_same] at hst
        cases hst
      have nDst : D ≠ st := ne_of_none (same_upd hc _ _ eDo) hst
      have sm4 : Same H (upd (upd (upd H1 l (.lst (ns.map V.int))) o (.lst [V.int 5])) c (.lst (ns.map V.int ++ [V.int 5]))) := ((sm.trans (same_upd hl)).trans (same_upd ho)).trans (same_upd hc)
      refine k st _ ⟨D, c, gs, ns ++ [5], 0, ⟨sm4.trans (same_upd hst), sm4.free hst, hD, ((sm.trans (same_upd hl)).trans (same_upd ho)).free hc, upd_same, ?_, ?_, nDc, by rw [List.length_append]; exact Nat.succ_pos _⟩, Nat.le_refl _⟩
      · rw [upd_ne nDst]
        exact same_upd hc _ _ eDo
      · rw [upd_ne ncst, upd_same, List.map_append]
        rfl

theorem ok_draw (T : Txt K mg) : FnOk P w K mg base CX0 1 T.f_draw T.d_draw ["_law_state", "_law_size"] spDraw := by
  refine T.F_draw.ok sc_draw (fun vs H Q E h => ?_) (fun cdv A outer s H vs Q E hr h => ?_)
  · obtain ⟨G, a, m, sz, rfl, _⟩ := h
    rfl
  · obtain ⟨G, a, m, sz, rfl, ⟨b0, c, gs0, cs, n, d0, hn⟩, hm, hs0, hs2, k⟩ := h
    refine ⟨_, (pss_cons (ps_augS (pv 0) pe_int get_list pe_int ip_add set_list)
    (C8.pss_cut (ps_while PassesOwn.never (PW.pt (pw_and (pt_cmpR (op_neD hr.units) (pe_ix ix_list (pv 0) pe_int (fun _ _ => rfl)) (pe_lst pa_nil) (nomark _)) (pw_and1 (pt_cmpR op_eq (pe_ix ix_list (pe_ix ix_list (pv 0) pe_int (fun _ _ => rfl)) pe_int (fun _ _ => rfl)) pe_int (nomark _)))))
      (pss_one (ps_asg (pe_slice sl_list (pe_ix ix_list (pv 0) pe_int (fun _ _ => rfl)) (po_some pe_int) po_none) (pg_sub (pv 0) pe_int set_list))))
    (pss_cons (ps_if (pt_cmpR (op_neD hr.units) (pe_ix ix_list (pv 0) pe_int (fun _ _ => rfl)) (pe_lst pa_nil) (nomark _))
      (pss_cons (ps_set (i := 2) sc_draw.nd rfl (Or.inl rfl) (pe_op op_mod (pe_callTy call_int1 (by rfl) T.n_int (by decide +kernel) (pa_cons (pe_ix ix_list (pe_ix ix_list (pv 0) pe_int (fun _ _ => rfl)) pe_int (fun _ _ => rfl)) pa_nil)) (pv 1)))
    (pss_cons (ps_asg (pe_op op_fdivW (pe_ix ix_list (pe_ix ix_list (pv 0) pe_int (fun _ _ => rfl)) pe_int (fun _ _ => rfl)) (pv 1)) (pg_sub (pe_ix ix_list (pv 0) pe_int (fun _ _ => rfl)) pe_int set_list))
    (pss_one (ps_ret (pv 2)))))
      pss_nil)
    (pss_cons (ps_set (i := 3) sc_draw.nd rfl (Or.inl rfl) (pe_op op_mod (pe_callTy call_int1 (by rfl) T.n_int (by decide +kernel) (pa_cons (pe_ix ix_list (pe_ix ix_list (pv 0) pe_int (fun _ _ => rfl)) (pe_op op_mod (pe_callTy call_int1 (by rfl) T.n_int (by decide +kernel) (pa_cons (pe_ix ix_list (pv 0) pe_int (fun _ _ => rfl)) pa_nil)) (pe_callB call_len_seq (by rfl) T.n_len (by decide +kernel) (pa_cons (pe_ix ix_list (pv 0) pe_int (fun _ _ => rfl)) pa_nil))) (fun _ _ => rfl)) pa_nil)) pe_int))
    (pss_cons (ps_set (i := 4) sc_draw.nd rfl (Or.inl rfl) (pe_op op_mod (pe_callTy call_int1 (by rfl) T.n_int (by decide +kernel) (pa_cons (pe_op op_pow (pe_op op_add (pe_op op_add (pe_op op_mul (pv 3) pe_int) (pe_op op_mul (pe_ix ix_list (pv 0) pe_int (fun _ _ => rfl)) pe_int)) pe_int) pe_int) pa_nil)) pe_int))
    (pss_one (ps_ret (pe_op op_mod (pe_op op_mod (pe_callTy call_int1 (by rfl) T.n_int (by decide +kernel) (pa_cons (pe_op op_pow (pe_op op_add (pe_op op_add (pe_op op_mul (pv 4) pe_int) (pe_op op_mul (pe_ix ix_list (pv 0) pe_int (fun _ _ => rfl)) pe_int)) pe_int) pe_int) pa_nil)) pe_int) (pv 1))))))))), ?_⟩
    -- the count
    refine ⟨_, rfl, a, _, 2, _, rfl, rfl, SqL.of d0.hs, by decide, rfl, (n : Int), 1, rfl, rfl, a, _, 2, 2, rfl, rfl, d0.hs, rfl, ?_⟩
    have d1 : DS G (upd H a (.lst [V.ref b0, V.ref c, V.int ((n + 1 : Nat) : Int)])) a b0 c gs0 cs (n + 1) :=
      ⟨same_mut d0.same d0.fs, d0.fs, d0.fb, d0.fc, upd_same, by rw [upd_ne d0.sb.symm]; exact d0.hb, by rw [upd_ne d0.sc.symm]; exact d0.hc, d0.ne, d0.pos⟩
    -- the noughts ahead go
    refine ⟨fun σ H2 => σ = [some (.ref a), some (.int sz), none, none, none] ∧ ∃ (b : Addr) (gs : List Int), DS G H2 a b c gs cs (n + 1), ?_, ?_⟩
    · refine ⟨fun j σ H2 => σ = [some (.ref a), some (.int sz), none, none, none] ∧ ∃ (b : Addr) (gs : List Int), gs.length = j ∧ DS G H2 a b c gs cs (n + 1), ⟨_, rfl, b0, gs0, rfl, d1⟩, ?_⟩
      rintro j σ H2 ⟨rfl, b, gs, rfl, d⟩
      refine ⟨_, rfl, a, _, 0, _, rfl, rfl, SqL.of d.hs, rfl, Nat.zero_le _, fun p hp => ?_⟩
      have sp : Same H2 (upd H2 p (.lst [])) := same_upd hp
      have d2 : DS G (upd H2 p (.lst [])) a b c gs cs (n + 1) := ⟨d.same.trans sp, d.fs, d.fb, d.fc, sp _ _ d.hs, sp _ _ d.hb, sp _ _ d.hc, d.ne, d.pos⟩
      cases gs with
      | nil =>
        refine ⟨.list [], .list [], .lst (SqL.of d2.hb) .nil, .lst (SqL.of upd_same) .nil, shaped_ints [], shaped_ints [], false, by simp [PyData.eqv, PyData.eqvAll], iteF (iteF (⟨rfl, b, [], d2⟩))⟩
      | cons g r =>
        refine ⟨.list ((g :: r).map PyData.int), .list [], .lst (SqL.of d2.hb) (dp_ints _), .lst (SqL.of upd_same) .nil, shaped_ints _, shaped_ints [], true, by simp [PyData.eqv, PyData.eqvAll], iteT ?_⟩
        refine ⟨_, rfl, a, _, 0, _, rfl, rfl, SqL.of d2.hs, rfl, b, _, 0, .int g, rfl, rfl, SqL.of d2.hb, at0, rfl, _, rfl, ite2 (fun _ => ?_) fun _ => ⟨rfl, b, _, d2⟩⟩
        -- state[0] = state[0][1:]
        refine ⟨fun σ H3 => σ = [some (.ref a), some (.int sz), none, none, none] ∧ ∃ (b : Addr) (gs : List Int), gs.length = r.length ∧ DS G H3 a b c gs cs (n + 1), fun σ' H' h' => ⟨r.length, Nat.lt_succ_self _, h'⟩, ?_⟩
        refine ⟨_, rfl, a, _, 0, _, rfl, rfl, SqL.of d2.hs, rfl, 1, rfl, b, _, rfl, SqL.of d2.hb, fun q hq => ?_⟩
        have n1 : a ≠ q := ne_of_none d2.hs hq
        have n3 : c ≠ q := ne_of_none d2.hc hq
        refine ⟨_, rfl, a, _, 0, 0, rfl, rfl, by rw [upd_ne n1]; exact d2.hs, rfl, rfl, q, r, rfl, ?_⟩
        exact ⟨same_mut (d2.same.trans (same_upd hq)) d2.fs, d2.fs, d2.same.free hq, d2.fc, upd_same, by rw [upd_ne n1.symm, upd_same, cut1]; rfl, by rw [upd_ne d2.sc.symm, upd_ne n3]; exact d2.hc, n3.symm, d2.pos⟩
    · rintro σ H2 ⟨rfl, b, gs, d⟩
      refine ⟨_, rfl, a, _, 0, _, rfl, rfl, SqL.of d.hs, rfl, Nat.zero_le _, fun p hp => ?_⟩
      have sp : Same H2 (upd H2 p (.lst [])) := same_upd hp
      have d2 : DS G (upd H2 p (.lst [])) a b c gs cs (n + 1) := ⟨d.same.trans sp, d.fs, d.fb, d.fc, sp _ _ d.hs, sp _ _ d.hb, sp _ _ d.hc, d.ne, d.pos⟩
      cases gs with
      | cons g r =>
        refine ⟨.list ((g :: r).map PyData.int), .list [], .lst (SqL.of d2.hb) (dp_ints _), .lst (SqL.of upd_same) .nil, shaped_ints _, shaped_ints [], true, by simp [PyData.eqv, PyData.eqvAll], iteT ?_⟩
        refine ⟨_, rfl, a, _, 0, _, rfl, rfl, SqL.of d2.hs, rfl, b, _, 0, .int g, rfl, rfl, SqL.of d2.hb, at0, .inl ⟨g, rfl, ?_⟩⟩
        refine ⟨_, rfl, g, sz, rfl, rfl, hs0, ?_⟩
        refine ⟨_, rfl, a, _, 0, _, rfl, rfl, SqL.of d2.hs, rfl, b, _, 0, .int g, rfl, rfl, SqL.of d2.hb, at0, _, rfl, g, sz, rfl, rfl, wide_div (b := 200) hs0 (by omega) (by decide) (by decide), ?_⟩
        refine ⟨_, rfl, a, _, 0, _, rfl, rfl, SqL.of d2.hs, rfl, b, _, 0, 0, rfl, rfl, d2.hb, ix0 (Nat.succ_pos _), ?_⟩
        refine ⟨_, rfl, k _ _ (Int.emod_nonneg _ (by omega)) (Int.emod_lt_of_pos _ hs0) ⟨b, c, g / sz :: r, cs, n + 1, ?_, Nat.succ_le_succ hn⟩⟩
        exact ⟨same_mut d2.same d2.fb, d2.fs, d2.fb, d2.fc, by rw [upd_ne d2.sb]; exact d2.hs, upd_same, by rw [upd_ne d2.ne.symm]; exact d2.hc, d2.ne, d2.pos⟩
      | nil =>
        refine ⟨.list [], .list [], .lst (SqL.of d2.hb) .nil, .lst (SqL.of upd_same) .nil, shaped_ints [], shaped_ints [], false, by simp [PyData.eqv, PyData.eqvAll], iteF ?_⟩
        have hl : (0 : Int) < (cs.length : Int) := by have := d.pos; omega
        have i0 : 0 ≤ ((n + 1 : Nat) : Int) % (cs.length : Int) := Int.emod_nonneg _ (by omega)
        have i1 : ((n + 1 : Nat) : Int) % (cs.length : Int) < (cs.length : Int) := Int.emod_lt_of_pos _ hl
        obtain ⟨j, ej⟩ : ∃ j : Nat, ((n + 1 : Nat) : Int) % (cs.length : Int) = (j : Int) := ⟨(((n + 1 : Nat) : Int) % (cs.length : Int)).toNat, by omega⟩
        have hj : j < cs.length := by omega
        refine ⟨_, rfl, a, _, 1, _, rfl, rfl, SqL.of d2.hs, rfl, _, rfl, a, _, 2, _, rfl, rfl, SqL.of d2.hs, rfl, .inl ⟨_, rfl, ?_⟩⟩
        refine ⟨_, rfl, a, _, 1, _, rfl, rfl, SqL.of d2.hs, rfl, c, _, rfl, .inl (SqL.of d2.hc), _, _, rfl, rfl, by rw [List.length_map]; exact hl, ?_⟩
        refine ⟨c, _, _, .int cs[j], rfl, rfl, SqL.of d2.hc, by rw [List.length_map]; exact at_of ej (by rw [List.getElem?_map, List.getElem?_eq_getElem hj]; rfl), .inl ⟨_, rfl, _, _, rfl, rfl, big1, ?_⟩⟩
        have c0 : 0 ≤ cs[j] % 2147483647 := Int.emod_nonneg _ (by decide)
        have c1 : cs[j] % 2147483647 < 2147483647 := Int.emod_lt_of_pos _ (by decide)
        refine ⟨_, rfl, _, _, rfl, rfl, .inr ⟨by decide, by decide⟩, _, rfl, a, _, 2, _, rfl, rfl, SqL.of d2.hs, rfl, _, _, rfl, rfl, .inr ⟨by decide, by decide⟩, _, _, rfl, rfl, _, _, rfl, rfl, _, _, rfl, rfl, ⟨by decide, by decide, pow_lt _ _ c0 c1 (by omega) (by omega)⟩, .inl ⟨_, rfl, _, _, rfl, rfl, big1, ?_⟩⟩
        have e0 : ∀ z : Int, 0 ≤ z % 2147483647 := fun z => Int.emod_nonneg _ (by decide)
        have e1 : ∀ z : Int, z % 2147483647 < 2147483647 := fun z => Int.emod_lt_of_pos _ (by decide)
        refine ⟨_, rfl, _, _, rfl, rfl, .inr ⟨by decide, by decide⟩, _, rfl, a, _, 2, _, rfl, rfl, SqL.of d2.hs, rfl, _, _, rfl, rfl, .inr ⟨by decide, by decide⟩, _, _, rfl, rfl, _, _, rfl, rfl, _, _, rfl, rfl, ⟨by decide, by decide, pow_lt2 _ _ (e0 _) (e1 _) (by omega) (by omega)⟩, .inl ⟨_, rfl, _, _, rfl, rfl, big2, ?_⟩⟩
        refine ⟨_, rfl, _, sz, rfl, rfl, hs0, ?_⟩
        exact k _ _ (Int.emod_nonneg _ (by omega)) (Int.emod_lt_of_pos _ hs0) ⟨b, c, [], cs, n + 1, d2, Nat.succ_le_succ hn⟩
end

/-! ### ratios -/
section
variable {P : Program} {w : World} {K : PySem.W.Frag} {mg : Str → Option Value} {base : Heap}
/-- a ratio's attributes -/
def rf (t b : Int) : List (Str × V) := [("_top", .int t), ("_bottom", .int b)]
theorem rf_top (t b : Int) : (rf t b).lookup ("_top" : Str) = some (.int t) := by simp [rf, List.lookup]
theorem nTB : (("_bottom" : Str) == ("_top" : Str)) = false := by decide +kernel
theorem nBT : (("_top" : Str) == ("_bottom" : Str)) = false := by decide +kernel
theorem rf_bottom (t b : Int) : (rf t b).lookup ("_bottom" : Str) = some (.int b) := by simp [rf, List.lookup, nTB]
def RatAt (C : Addr) (H : Hp) (p : Addr) (t b : Int) : Prop := ∃ dx, H p = some (.ins C dx (rf t b))
/-- the divisor -/
def dvs (t b : Int) : Int := if b < 0 then -((Nat.gcd t.natAbs b.natAbs : Nat) : Int) else ((Nat.gcd t.natAbs b.natAbs : Nat) : Int)
def lowT (t b : Int) : Int := t.fdiv (dvs t b)
def lowB (t b : Int) : Int := b.fdiv (dvs t b)
def BIG (z : Int) : Prop := z.natAbs < 2 ^ 8000
theorem dvs_ne {t b : Int} (h : b ≠ 0) : dvs t b ≠ 0 := by
  have hg : 0 < Nat.gcd t.natAbs b.natAbs := Nat.gcd_pos_of_pos_right _ (by omega)
  unfold dvs
  split <;> omega
theorem dvs_le {t b : Int} (h : b ≠ 0) : (dvs t b).natAbs ≤ b.natAbs := by
  have hg : Nat.gcd t.natAbs b.natAbs ≤ b.natAbs := Nat.le_of_dvd (by omega) (Nat.gcd_dvd_right _ _)
  unfold dvs
  split <;> omega
/-- Ratio(t, b), b not 0 -/
def spInit (C : Addr) : Sp := fun vs H Q _ => ∃ (p dx : Addr) (t b : Int), vs = [.ref p, .int t, .int b] ∧ H p = some (.ins C dx []) ∧ b ≠ 0 ∧ BIG b ∧ ∀ H', RatAt C H' p (lowT t b) (lowB t b) → (∀ a o, H a = some o → a ≠ p → H' a = some o) → Q .non H'
theorem ok_init (T : Txt K mg) : FnOk P w K mg base CX0 1 T.f_Ratio_init T.d_Ratio_init ["self", "top", "bottom"] (spInit T.f_Ratio) := by
  refine T.F_Ratio_init.ok sc_Ratio_init (fun vs H Q E h => ?_) (fun cdv A outer s H vs Q E hr h => ?_)
  · obtain ⟨p, dx, t, b, rfl, _⟩ := h
    rfl
  · obtain ⟨p, dx, t, b, rfl, hp, hb, hB, k⟩ := h
    refine ⟨_, PSs.nox (pss_cons (ps_if (pt_cmpR op_eq (pv 2) pe_int (nomark _))
      (pss_one ps_never)
      pss_nil)
    (pss_cons (ps_set (i := 3) sc_Ratio_init.nd rfl (Or.inl rfl) (pe_callBfun cr_gcd rfl T.g_gcd (pa_cons (pv 1) (pa_cons (pv 2) pa_nil))))
    (C8.pss_cut (ps_if (pt_cmpR op_lt (pv 2) pe_int (nomark _))
      (pss_one (ps_set (i := 3) sc_Ratio_init.nd rfl (Or.inl rfl) (pe_un un_neg (pv 3))))
      pss_nil)
    (pss_cons (ps_fld (pv 0) (pe_op op_fdivZ (pv 1) (pv 3)) rfl)
    (pss_one (ps_fld (pv 0) (pe_op op_fdivZ (pv 2) (pv 3)) rfl)))))), ?_⟩
    refine ⟨_, rfl, rfl, _, rfl, ite2 (fun h0 => ?_) fun _ => ?_⟩
    · have e : V.int b = V.int 0 := of_decide_eq_true h0
      injection e with e
      exact absurd e hb
    refine ⟨_, rfl, _, rfl, t, b, rfl, ?_⟩
    refine ⟨fun σ H' => σ = [some (.ref p), some (.int t), some (.int b), some (.int (dvs t b))] ∧ H' = H, ?_, ?_⟩
    · refine ⟨_, rfl, b, 0, rfl, rfl, _, rfl, ite2 (fun h0 => ?_) fun h0 => ?_⟩
      · have h0' : b < 0 := of_decide_eq_true h0
        refine ⟨_, rfl, _, rfl, ?_, rfl⟩
        unfold dvs
        rw [if_pos h0']
        rfl
      · have h0' : ¬ b < 0 := fun q => h0 (decide_eq_true q)
        refine ⟨?_, rfl⟩
        unfold dvs
        rw [if_neg h0']
        rfl
    · rintro σ H' ⟨rfl, rfl⟩
      have hz : CDivZ t (dvs t b) := cdivZ (dvs_ne hb) (Nat.lt_of_le_of_lt (dvs_le hb) hB)
      have hz2 : CDivZ b (dvs t b) := cdivZ (dvs_ne hb) (Nat.lt_of_le_of_lt (dvs_le hb) hB)
      refine ⟨_, rfl, _, rfl, t, _, rfl, rfl, hz, _, rfl, p, T.f_Ratio, dx, [], rfl, hp, T.cl_Ratio, T.na_Ratio_top, (by show 0 < 1000; decide), ?_⟩
      refine ⟨_, rfl, _, rfl, b, _, rfl, rfl, hz2, _, rfl, p, T.f_Ratio, dx, _, rfl, upd_same, T.cl_Ratio, T.na_Ratio_bottom, (by show 1 < 1000; decide), ?_⟩
      refine k _ ⟨dx, Eq.trans upd_same ?_⟩ fun a o e ha => by rw [upd_ne ha, upd_ne ha]; exact e
      show some (HO.ins T.f_Ratio dx (if ("_top" : Str) = "_bottom" then _ else _)) = _
      rw [if_neg (by decide +kernel)]
      rfl
/-- the properties -/
def spTop (C : Addr) : Sp := fun vs H Q _ => ∃ (p : Addr) (t b : Int), vs = [.ref p] ∧ RatAt C H p t b ∧ Q (.int t) H
def spBottom (C : Addr) : Sp := fun vs H Q _ => ∃ (p : Addr) (t b : Int), vs = [.ref p] ∧ RatAt C H p t b ∧ Q (.int b) H
def sgnI (t : Int) : Int := if t < 0 then -1 else if 0 < t then 1 else 0
def spSign (C : Addr) : Sp := fun vs H Q _ => ∃ (p : Addr) (t b : Int), vs = [.ref p] ∧ RatAt C H p t b ∧ Q (.int (sgnI t)) H
theorem ok_top (T : Txt K mg) : FnOk P w K mg base CX0 1 T.f_Ratio_top T.d_Ratio_top ["self"] (spTop T.f_Ratio) := by
  refine T.F_Ratio_top.ok sc_Ratio_top (fun vs H Q E h => ?_) (fun cdv A outer s H vs Q E hr h => ?_)
  · obtain ⟨p, t, b, rfl, _⟩ := h
    rfl
  · obtain ⟨p, t, b, rfl, ⟨dx, hp⟩, k⟩ := h
    refine ⟨_, (pss_one (ps_ret (pe_fld (pv 0) rfl))), ?_⟩
    exact ⟨_, rfl, p, T.f_Ratio, dx, _, _, rfl, hp, T.cl_Ratio, T.na_Ratio_top, rf_top _ _, k⟩
theorem ok_bottom (T : Txt K mg) : FnOk P w K mg base CX0 1 T.f_Ratio_bottom T.d_Ratio_bottom ["self"] (spBottom T.f_Ratio) := by
  refine T.F_Ratio_bottom.ok sc_Ratio_bottom (fun vs H Q E h => ?_) (fun cdv A outer s H vs Q E hr h => ?_)
  · obtain ⟨p, t, b, rfl, _⟩ := h
    rfl
  · obtain ⟨p, t, b, rfl, ⟨dx, hp⟩, k⟩ := h
    refine ⟨_, (pss_one (ps_ret (pe_fld (pv 0) rfl))), ?_⟩
    exact ⟨_, rfl, p, T.f_Ratio, dx, _, _, rfl, hp, T.cl_Ratio, T.na_Ratio_bottom, rf_bottom _ _, k⟩
end

section
variable {P : Program} {w : World} {K : PySem.W.Frag} {mg : Str → Option Value} {base : Heap}
theorem ok_sign (T : Txt K mg) : FnOk P w K mg base CX0 1 T.f_Ratio_sign T.d_Ratio_sign ["self"] (spSign T.f_Ratio) := by
  refine T.F_Ratio_sign.ok sc_Ratio_sign (fun vs H Q E h => ?_) (fun cdv A outer s H vs Q E hr h => ?_)
  · obtain ⟨p, t, b, rfl, _⟩ := h
    rfl
  · obtain ⟨p, t, b, rfl, ⟨dx, hp⟩, k⟩ := h
    refine ⟨_, (pss_cons (ps_if (pt_cmpR op_lt (pe_fld (pv 0) rfl) pe_int (nomark _))
      (pss_one (ps_ret (pe_un un_neg pe_int)))
      pss_nil)
    (pss_one (ps_ret (pe_ifExp (pt_cmpR op_gt (pe_fld (pv 0) rfl) pe_int (nomark _)) pe_int pe_int)))), ?_⟩
    refine ⟨_, rfl, p, T.f_Ratio, dx, _, _, rfl, hp, T.cl_Ratio, T.na_Ratio_top, rf_top _ _, t, 0, rfl, rfl, _, rfl, ite2 (fun h0 => ?_) fun h0 => ?_⟩
    · refine ⟨1, rfl, ?_⟩
      have e : sgnI t = -1 := if_pos (of_decide_eq_true h0)
      rw [e] at k
      exact k
    · have h0' : ¬ t < 0 := fun q => h0 (decide_eq_true q)
      refine ⟨_, rfl, p, T.f_Ratio, dx, _, _, rfl, hp, T.cl_Ratio, T.na_Ratio_top, rf_top _ _, t, 0, rfl, rfl, _, rfl, ite2 (fun h1 => ?_) fun h1 => ?_⟩
      · have e : sgnI t = 1 := (if_neg h0').trans (if_pos (of_decide_eq_true h1))
        rw [e] at k
        exact k
      · have e : sgnI t = 0 := (if_neg h0').trans (if_neg fun q => h1 (decide_eq_true q))
        rw [e] at k
        exact k
end

/-! ### texts of numbers and of ratios -/
def dec (n : Int) : Str := Str.ofString (toString n)
theorem tl_dec (n : Int) : TL.tl (dec n) = if n < 0 then 45 :: TL.numL n.natAbs else TL.numL n.natAbs := by
  cases n with
  | ofNat m => exact TL.tl_num m
  | negSucc m =>
    rw [if_pos (Int.negSucc_lt_zero m)]
    show TL.tl (Str.ofString ("-" ++ Nat.repr (m + 1))) = 45 :: TL.numL (m + 1)
    have h := TL.tl_num (m + 1)
    rw [TL.tl_ofString] at h ⊢
    rw [String.toList_append, List.map_append]
    have h' : (Nat.repr (m + 1)).toList.map Char.toNat = TL.numL (m + 1) := h
    rw [h']
    rfl
theorem dec_nn {n : Int} (h : ¬ n < 0) : TL.tl (dec n) = TL.numL n.natAbs := (tl_dec n).trans (if_neg h)
theorem dec_neg {n : Int} (h : n < 0) : TL.tl (dec n) = 45 :: TL.numL n.natAbs := (tl_dec n).trans (if_pos h)
theorem dec_len {n : Int} {k : Nat} (hk : 0 < k) (h : n.natAbs < 10 ^ k) : (dec n).length ≤ k + 1 := by
  rw [TL.len_tl, tl_dec]
  have := TL.numL_len hk h
  split
  · rw [List.length_cons]; omega
  · omega
/-- a number as it may stand before or behind a stroke -/
def numOk (l : List Nat) : Bool := decide (1 ≤ l.length ∧ l.length ≤ 9) && (!(decide (l.head? = some 48) && !decide (l = [48])) && l.all fun c => decide (48 ≤ c ∧ c ≤ 57))
def stripL : List Nat → List Nat
  | [] => []
  | c :: r => if c = 45 then r else c :: r
def negL (l : List Nat) : Bool := decide (l.head? = some 45)
def frontL (l : List Nat) : List Nat := (stripL l).takeWhile fun c => c != 47
def backL (l : List Nat) : List Nat := match (stripL l).dropWhile fun c => c != 47 with
  | [] => [49]
  | _ :: b => b
def goodL (l : List Nat) : Bool := numOk (frontL l) && (numOk (backL l) && !decide (backL l = [48]))
def topL (l : List Nat) : Int := if negL l then -((NumText.digitsVal (frontL l) : Nat) : Int) else ((NumText.digitsVal (frontL l) : Nat) : Int)
def botL (l : List Nat) : Int := ((NumText.digitsVal (backL l) : Nat) : Int)
theorem numOk_len {l : List Nat} (h : numOk l = true) : 1 ≤ l.length ∧ l.length ≤ 9 := of_decide_eq_true (Bool.and_eq_true_iff.mp h).1
theorem numOk_all {l : List Nat} (h : numOk l = true) : NumText.AllDigits l := fun c hc => of_decide_eq_true (List.all_eq_true.mp (Bool.and_eq_true_iff.mp (Bool.and_eq_true_iff.mp h).2).2 c hc)
theorem fold_ge (l : List Nat) : ∀ a : Nat, a ≤ l.foldl (fun acc c => acc * 10 + (c - 48)) a := by
  induction l with
  | nil => intro a; exact Nat.le_refl _
  | cons c r ih =>
    intro a
    have := ih (a * 10 + (c - 48))
    show a ≤ r.foldl _ (a * 10 + (c - 48))
    omega
theorem fold_lt (l : List Nat) (h : NumText.AllDigits l) : ∀ a : Nat, l.foldl (fun acc c => acc * 10 + (c - 48)) a < (a + 1) * 10 ^ l.length := by
  induction l with
  | nil => intro a; simp
  | cons c r ih =>
    intro a
    have hc := h.head
    have h1 := ih h.tail (a * 10 + (c - 48))
    show r.foldl _ (a * 10 + (c - 48)) < (a + 1) * 10 ^ (r.length + 1)
    have h2 : (a * 10 + (c - 48) + 1) * 10 ^ r.length ≤ ((a + 1) * 10) * 10 ^ r.length := Nat.mul_le_mul_right _ (by omega)
    have h3 : ((a + 1) * 10) * 10 ^ r.length = (a + 1) * 10 ^ (r.length + 1) := by rw [Nat.pow_succ, Nat.mul_assoc, Nat.mul_comm 10]
    omega
theorem val_lt {l : List Nat} (h : numOk l = true) : NumText.digitsVal l < 10 ^ 9 := by
  have h1 := fold_lt l (numOk_all h) 0
  have h2 : (0 + 1) * 10 ^ l.length ≤ 10 ^ 9 := by
    rw [Nat.zero_add, Nat.one_mul]
    exact Nat.pow_le_pow_right (by decide) (numOk_len h).2
  exact Nat.lt_of_lt_of_le h1 h2
theorem val_ne {l : List Nat} (h : numOk l = true) (h0 : l ≠ [48]) : NumText.digitsVal l ≠ 0 := by
  cases l with
  | nil => exact absurd (numOk_len h).1 (by decide)
  | cons c r =>
    have hc := (numOk_all h).head
    have h1 : c ≠ 48 := fun e => by
      have h2 := (Bool.and_eq_true_iff.mp (Bool.and_eq_true_iff.mp h).2).1
      rw [e, decide_eq_true (show (48 :: r).head? = some 48 from rfl), Bool.true_and, Bool.not_not] at h2
      exact h0 (by rw [e]; exact of_decide_eq_true h2)
    have h3 := fold_ge r (0 * 10 + (c - 48))
    show r.foldl _ (0 * 10 + (c - 48)) ≠ 0
    omega
theorem bot_ne {l : List Nat} (h : goodL l = true) : botL l ≠ 0 := by
  have h1 := (Bool.and_eq_true_iff.mp (Bool.and_eq_true_iff.mp h).2)
  have h2 : backL l ≠ [48] := by simpa using h1.2
  have := val_ne h1.1 h2
  unfold botL
  omega
theorem bot_big {l : List Nat} (h : goodL l = true) : BIG (botL l) := by
  have h1 := (Bool.and_eq_true_iff.mp (Bool.and_eq_true_iff.mp h).2)
  have := val_lt h1.1
  show (botL l).natAbs < 2 ^ 8000
  unfold botL
  rw [Int.natAbs_natCast]
  exact Nat.lt_of_lt_of_le this (by decide +kernel)
theorem reads {l : List Nat} (h : numOk l = true) : PySem.intText? ⟨l.toArray⟩ = some ((NumText.digitsVal l : Nat) : Int) := by
  have hl := numOk_len h
  have := PySem.intText_digits (x := ⟨l.toArray⟩) (by show NumText.AllDigits l; exact numOk_all h) (by show l ≠ []; intro e; rw [e] at hl; exact absurd hl.1 (by decide)) (by show l.toArray.size ≤ 4300; rw [List.size_toArray]; omega)
  exact this
/-! the text's methods -/
def dash : Str := "-"
def stroke : Str := "/"
theorem tl_dash : TL.tl dash = [45] := by decide +kernel
theorem tl_stroke : TL.tl stroke = [47] := by decide +kernel
theorem dash_eq : dash = ⟨#[45]⟩ := TL.ext_tl tl_dash
theorem strip_eq (z : Str) : Txt.removeprefix z dash = ⟨(stripL (TL.tl z)).toArray⟩ := by
  rw [← TL.mk_tl z, dash_eq]
  generalize TL.tl z = l
  cases l with
  | nil => rfl
  | cons c r =>
    unfold Txt.removeprefix stripL
    by_cases h : c = 45
    · subst h
      have e : Builtin.Str.subAt ⟨(45 :: r).toArray⟩ ⟨#[45]⟩ 0 = true := by
        show ((45 :: r).toArray.extract 0 (0 + 1) == #[45]) = true
        simp
      rw [e, if_pos rfl]
      show (if ((⟨(45 :: r).toArray⟩ : Str).length - 1 == (⟨(45 :: r).toArray⟩ : Str).length) = true then _ else _) = _
      rw [if_neg (by
        show ¬ (((45 :: r).toArray.size - 1 == (45 :: r).toArray.size) = true)
        rw [List.size_toArray, List.length_cons]
        simp)]
      refine TL.ext_tl ?_
      show TL.tl (Builtin.Str.strSub ⟨(45 :: r).toArray⟩ 1 (⟨(45 :: r).toArray⟩ : Str).length) = _
      rw [TL.tl_strSub_end]
      rfl
    · have e : Builtin.Str.subAt ⟨(c :: r).toArray⟩ ⟨#[45]⟩ 0 = false := by
        show ((c :: r).toArray.extract 0 (0 + 1) == #[45]) = false
        simp [h]
      rw [e, if_neg Bool.false_ne_true]
      show (⟨(c :: r).toArray⟩ : Str) = _
      simp [h]
theorem starts_eq (z : Str) : Txt.startswith z dash = negL (TL.tl z) := by
  rw [← TL.mk_tl z, dash_eq]
  generalize TL.tl z = l
  unfold Txt.startswith negL
  cases l with
  | nil => rfl
  | cons c r =>
    have e1 : decide (0 + (⟨#[45]⟩ : Str).length ≤ (⟨(c :: r).toArray⟩ : Str).length) = true := by
      refine decide_eq_true ?_
      show 0 + 1 ≤ (c :: r).toArray.size
      rw [List.size_toArray, List.length_cons]
      omega
    rw [e1, Bool.true_and]
    show ((c :: r).toArray.extract 0 (0 + 1) == #[45]) = decide (some c = some 45)
    by_cases h : c = 45
    · subst h; simp
    · simp [h]
theorem span_none {l : List Nat} (h : 47 ∉ l) : l.takeWhile (fun c => c != 47) = l ∧ l.dropWhile (fun c => c != 47) = [] := by
  induction l with
  | nil => exact ⟨rfl, rfl⟩
  | cons c r ih =>
    have h1 : c ≠ 47 := fun e => h (by rw [e]; exact List.mem_cons_self)
    have := ih fun q => h (List.mem_cons_of_mem _ q)
    rw [List.takeWhile_cons, List.dropWhile_cons]
    simp [h1, this]
theorem span_at {f b : List Nat} (h : 47 ∉ f) : (f ++ 47 :: b).takeWhile (fun c => c != 47) = f ∧ (f ++ 47 :: b).dropWhile (fun c => c != 47) = 47 :: b := by
  induction f with
  | nil => exact ⟨by simp, by simp⟩
  | cons c r ih =>
    have h1 : c ≠ 47 := fun e => h (by rw [e]; exact List.mem_cons_self)
    have := ih fun q => h (List.mem_cons_of_mem _ q)
    rw [List.cons_append, List.takeWhile_cons, List.dropWhile_cons]
    simp [h1, this]
/-- the text cut at its first stroke -/
theorem cut_eq (l : List Nat) : (∃ b, l.dropWhile (fun c => c != 47) = 47 :: b ∧ Txt.partition ⟨l.toArray⟩ stroke = (⟨(l.takeWhile fun c => c != 47).toArray⟩, stroke, ⟨b.toArray⟩)) ∨
    (l.dropWhile (fun c => c != 47) = [] ∧ l.takeWhile (fun c => c != 47) = l ∧ Txt.partition ⟨l.toArray⟩ stroke = (⟨l.toArray⟩, Str.empty, Str.empty)) := by
  by_cases h : 47 ∈ l
  · obtain ⟨f, b, e, hf⟩ : ∃ f b, l = f ++ 47 :: b ∧ 47 ∉ f := by
      induction l with
      | nil => cases h
      | cons c r ih =>
        by_cases hc : c = 47
        · exact ⟨[], r, by rw [hc]; rfl, by simp⟩
        · rcases List.mem_cons.mp h with h | h
          · exact absurd h.symm hc
          · obtain ⟨f, b, e, hf⟩ := ih h
            refine ⟨c :: f, b, by rw [e]; rfl, fun q => ?_⟩
            rcases List.mem_cons.mp q with q | q
            · exact hc q.symm
            · exact hf q
    obtain ⟨e1, e2⟩ := span_at (b := b) hf
    left
    refine ⟨b, by rw [e, e2], ?_⟩
    rw [e, e1]
    have e3 : (⟨(f ++ 47 :: b).toArray⟩ : Str) = ⟨f.toArray⟩ ++ stroke ++ ⟨b.toArray⟩ := TL.ext_tl (by rw [TL.tl_append, TL.tl_append, tl_stroke, List.append_assoc]; rfl)
    rw [e3]
    exact TL.partition_app tl_stroke hf
  · obtain ⟨e1, e2⟩ := span_none h
    exact .inr ⟨e2, e1, TL.partition_none tl_stroke h⟩
/-! a ratio's text -/
def ratText (t b : Int) : Str := if b = 1 then dec t else dec t ++ stroke ++ dec b
theorem numL_head {n : Nat} (h : (TL.numL n).head? = some 48) : TL.numL n = [48] := by
  induction n using Nat.strongRecOn with
  | _ n ih =>
    by_cases hn : n < 10
    · rw [TL.numL_lt hn] at h ⊢
      have : 48 + n = 48 := Option.some.inj h
      rw [this]
    · rw [TL.numL_step (by omega)] at h
      have h1 : (TL.numL (n / 10)).head? = some 48 := by
        cases e : TL.numL (n / 10) with
        | nil => exact absurd e (TL.numL_ne _)
        | cons c r =>
          rw [e] at h
          exact h
      have h2 := ih (n / 10) (by omega) h1
      have h3 := congrArg NumText.digitsVal h2
      rw [TL.numL_val] at h3
      have h4 : NumText.digitsVal [48] = 0 := rfl
      omega
theorem numOk_num {n : Nat} (h : n < 10 ^ 9) : numOk (TL.numL n) = true := by
  unfold numOk
  have h1 : 1 ≤ (TL.numL n).length ∧ (TL.numL n).length ≤ 9 := by
    refine ⟨?_, TL.numL_len (by decide) h⟩
    cases e : TL.numL n with
    | nil => exact absurd e (TL.numL_ne n)
    | cons c r => exact Nat.succ_pos _
  have h2 : (TL.numL n).all (fun c => decide (48 ≤ c ∧ c ≤ 57)) = true := List.all_eq_true.mpr fun c hc => decide_eq_true (TL.numL_digits n c hc)
  rw [decide_eq_true h1, h2, Bool.true_and, Bool.and_true]
  by_cases h3 : (TL.numL n).head? = some 48
  · rw [decide_eq_true (numL_head h3), Bool.not_true, Bool.and_false, Bool.not_false]
  · rw [decide_eq_false h3, Bool.false_and, Bool.not_false]
theorem num_no47 (n : Nat) : 47 ∉ TL.numL n := TL.numL_free (.inl (by decide))
theorem strip_num {n : Nat} {r : List Nat} : stripL (TL.numL n ++ r) = TL.numL n ++ r ∧ negL (TL.numL n ++ r) = false := by
  cases e : TL.numL n with
  | nil => exact absurd e (TL.numL_ne n)
  | cons c q =>
    have hc : c ≠ 45 := fun z => TL.numL_free (n := n) (s := 45) (.inl (by decide)) (by rw [e, z]; exact List.mem_cons_self)
    refine ⟨if_neg hc, decide_eq_false fun z => hc (Option.some.inj z)⟩
/-- the text of a ratio with small numbers is read back -/
theorem text_back {t b : Int} (ht : t.natAbs < 10 ^ 9) (hb0 : 0 < b) (hb : b.natAbs < 10 ^ 9) : goodL (TL.tl (ratText t b)) = true ∧ topL (TL.tl (ratText t b)) = t ∧ botL (TL.tl (ratText t b)) = b := by
  have key : ∀ r : List Nat, TL.tl (ratText t b) = TL.tl (dec t) ++ r → stripL (TL.tl (ratText t b)) = TL.numL t.natAbs ++ r ∧ negL (TL.tl (ratText t b)) = decide (t < 0) := by
    intro r e
    rw [e]
    by_cases h : t < 0
    · rw [dec_neg h, decide_eq_true h]
      exact ⟨rfl, rfl⟩
    · rw [dec_nn h, decide_eq_false h]
      exact strip_num
  have fin : frontL (TL.tl (ratText t b)) = TL.numL t.natAbs → backL (TL.tl (ratText t b)) = TL.numL b.natAbs → negL (TL.tl (ratText t b)) = decide (t < 0) → goodL (TL.tl (ratText t b)) = true ∧ topL (TL.tl (ratText t b)) = t ∧ botL (TL.tl (ratText t b)) = b := by
    intro e1 e2 e3
    refine ⟨?_, ?_, ?_⟩
    · unfold goodL
      rw [e1, e2, numOk_num ht, numOk_num hb, Bool.true_and, Bool.true_and]
      have : TL.numL b.natAbs ≠ [48] := fun q => by
        have := congrArg NumText.digitsVal q
        rw [TL.numL_val] at this
        have h4 : NumText.digitsVal [48] = 0 := rfl
        omega
      rw [decide_eq_false this, Bool.not_false]
    · unfold topL
      rw [e1, e3, TL.numL_val]
      by_cases h : t < 0
      · rw [decide_eq_true h, if_pos rfl]; omega
      · rw [decide_eq_false h, if_neg Bool.false_ne_true]; omega
    · unfold botL
      rw [e2, TL.numL_val]
      omega
  by_cases h1 : b = 1
  · have e : TL.tl (ratText t b) = TL.tl (dec t) ++ [] := by
      unfold ratText
      rw [if_pos h1, List.append_nil]
    obtain ⟨k1, k2⟩ := key [] e
    rw [List.append_nil] at k1
    obtain ⟨s1, s2⟩ := span_none (num_no47 t.natAbs)
    refine fin ?_ ?_ k2
    · unfold frontL
      rw [k1, s1]
    · unfold backL
      rw [k1, s2, h1]
      rfl
  · have e : TL.tl (ratText t b) = TL.tl (dec t) ++ (47 :: TL.numL b.natAbs) := by
      unfold ratText
      rw [if_neg h1, TL.tl_append, TL.tl_append, tl_stroke, dec_nn (n := b) (by omega), List.append_assoc]
      rfl
    obtain ⟨k1, k2⟩ := key _ e
    obtain ⟨s1, s2⟩ := span_at (b := TL.numL b.natAbs) (num_no47 t.natAbs)
    refine fin ?_ ?_ k2
    · unfold frontL
      rw [k1, s1]
    · unfold backL
      rw [k1, s2]
theorem ratText_len {t b : Int} (ht : t.natAbs < 10 ^ 64) (hb : b.natAbs < 10 ^ 64) : (ratText t b).length ≤ 200 := by
  have h1 := dec_len (by decide) ht
  have h2 := dec_len (by decide) hb
  unfold ratText
  split
  · omega
  · rw [TL.len_tl, TL.tl_append, TL.tl_append, tl_stroke, List.length_append, List.length_append, ← TL.len_tl, ← TL.len_tl]
    simp only [List.length_cons, List.length_nil]
    omega

/-! ### the functions on ratios -/
section
variable {P : Program} {w : World} {K : PySem.W.Frag} {mg : Str → Option Value} {base : Heap}
theorem made_rat {C : Addr} {H : Hp} {t b : Int} {Q : VK} {E : XK} (hb : b ≠ 0) (hB : BIG b) (k : ∀ x H', H x = none → Same H H' → RatAt C H' x (lowT t b) (lowB t b) → Q (.ref x) H') :
    ∀ x dx, H x = none → H dx = none → dx ≠ x → spInit C [.ref x, .int t, .int b] (upd (upd H dx (.own x)) x (.ins C dx [])) (fun v H2 => v = .non ∧ Q (.ref x) H2) E :=
  fun x dx nx nd _ => ⟨x, dx, t, b, rfl, upd_same, hb, hB, fun H' r st => ⟨rfl, k x H' nx (Same.made nx nd st) r⟩⟩
theorem low_one (t : Int) : lowT t 1 = t ∧ lowB t 1 = 1 := by
  have e : dvs t 1 = 1 := by
    unfold dvs
    rw [if_neg (by decide)]
    simp
  unfold lowT lowB
  rw [e]
  exact ⟨by rw [Int.fdiv_one], by decide⟩
theorem big_one : BIG 1 := by show (1 : Nat) < 2 ^ 8000; decide +kernel
theorem tyR {C : Addr} {H : Hp} {p : Addr} {t b : Int} (ic : C8.InsC K C) (r : RatAt C H p t b) : TyX K H (.ref p) (.ref C) := by
  obtain ⟨dx, hp⟩ := r
  exact .base (.ins hp ic.cl ic.ha ic.hn ic.htk ic.hm)
theorem abs_of (n : Int) : (if n < 0 then -n else n) = ((n.natAbs : Nat) : Int) := by split <;> omega
end

section
variable {P : Program} {w : World} {K : PySem.W.Frag} {mg : Str → Option Value} {base : Heap}
/-- _law_low -/
def spLow : Sp := fun vs H Q _ => ∃ t b : Int, vs = [.int t, .int b] ∧ b ≠ 0 ∧ BIG b ∧ ∀ p H', H p = none → Same H H' → H' p = some (.tup [.int (lowT t b), .int (lowB t b)]) → Q (.ref p) H'
theorem ok_low (T : Txt K mg) : FnOk P w K mg base CX0 1 T.f_low T.d_low ["_law_up", "_law_down"] spLow := by
  refine T.F_low.ok sc_low (fun vs H Q E h => ?_) (fun cdv A outer s H vs Q E hr h => ?_)
  · obtain ⟨t, b, rfl, _⟩ := h
    rfl
  · obtain ⟨t, b, rfl, hb, hB, k⟩ := h
    refine ⟨_, (pss_cons (ps_set (i := 2) sc_low.nd rfl (Or.inl rfl) (pe_callB call_abs (by rfl) T.n_abs (by decide +kernel) (pa_cons (pv 0) pa_nil)))
    (pss_cons (ps_set (i := 3) sc_low.nd rfl (Or.inl rfl) (pe_callB call_abs (by rfl) T.n_abs (by decide +kernel) (pa_cons (pv 1) pa_nil)))
    (C8.pss_cut (ps_while PassesOwn.never (pt_cmpR op_ne (pv 3) pe_int (nomark _))
      (pss_one (ps_par (i := 2) (j := 3) (by rfl) sc_low.nd rfl rfl (by decide) rfl rfl (pa_cons (pv 3) (pa_cons (pe_op op_mod (pe_callTy call_int1 (by rfl) T.n_int (by decide +kernel) (pa_cons (pv 2) pa_nil)) (pv 3)) pa_nil)) (by rfl))))
    (C8.pss_cut (ps_if (pt_cmpR op_lt (pv 1) pe_int (nomark _))
      (pss_one (ps_set (i := 2) sc_low.nd rfl (Or.inl rfl) (pe_un un_neg (pv 2))))
      pss_nil)
    (pss_one (ps_ret (pe_tup (pa_cons (pe_op op_fdivZ (pv 0) (pv 2)) (pa_cons (pe_op op_fdivZ (pv 1) (pv 2)) pa_nil))))))))), ?_⟩
    refine ⟨_, rfl, t, rfl, ?_⟩
    rw [abs_of]
    refine ⟨_, rfl, b, rfl, ?_⟩
    rw [abs_of]
    refine ⟨fun σ H' => σ = [some (.int t), some (.int b), some (.int ((Nat.gcd t.natAbs b.natAbs : Nat) : Int)), some (.int 0)] ∧ H' = H, ?_, ?_⟩
    · refine ⟨fun m σ H' => ∃ x y : Nat, σ = [some (.int t), some (.int b), some (.int (x : Int)), some (.int (y : Int))] ∧ H' = H ∧ Nat.gcd x y = Nat.gcd t.natAbs b.natAbs ∧ y = m, ⟨_, _, _, rfl, rfl, rfl, rfl⟩, ?_⟩
      rintro m σ H' ⟨x, y, rfl, rfl, hg, rfl⟩
      refine ⟨_, rfl, rfl, _, rfl, ?_⟩
      by_cases hy : y = 0
      · subst hy
        refine iteF ⟨?_, rfl⟩
        rw [Nat.gcd_zero_right] at hg
        rw [hg]
        rfl
      · have ey : (!decide (V.int (y : Int) = V.int 0)) = true := by
          rw [Bool.not_eq_true', decide_eq_false_iff_not]
          intro q
          injection q with q
          omega
        rw [ey]
        refine iteT ⟨fun σ' H2 => ∃ x' y' : Nat, σ' = [some (.int t), some (.int b), some (.int (x' : Int)), some (.int (y' : Int))] ∧ H2 = H' ∧ Nat.gcd x' y' = Nat.gcd t.natAbs b.natAbs ∧ y' < y, fun σ' H2 ⟨x', y', e1, e2, e3, e4⟩ => ⟨y', e4, x', y', e1, e2, e3, rfl⟩, ?_⟩
        refine ⟨_, rfl, _, rfl, .inl ⟨_, rfl, _, rfl, (x : Int), (y : Int), rfl, rfl, (by show (0 : Int) < (y : Int); omega), _, _, rfl, y, x % y, ?_, rfl, ?_, Nat.mod_lt _ (by omega)⟩⟩
        · rfl
        · rw [← hg, Nat.gcd_comm x y, Nat.gcd_rec y x, Nat.gcd_comm]
    rintro σ H' ⟨rfl, rfl⟩
    refine ⟨fun σ H2 => σ = [some (.int t), some (.int b), some (.int (dvs t b)), some (.int 0)] ∧ H2 = H', ?_, ?_⟩
    · refine ⟨_, rfl, b, 0, rfl, rfl, _, rfl, ite2 (fun h0 => ?_) fun h0 => ?_⟩
      · refine ⟨_, rfl, _, rfl, ?_, rfl⟩
        unfold dvs
        rw [if_pos (of_decide_eq_true h0)]
        rfl
      · refine ⟨?_, rfl⟩
        unfold dvs
        rw [if_neg fun q => h0 (decide_eq_true q)]
    rintro σ H2 ⟨rfl, rfl⟩
    have hz : ∀ i : Int, CDivZ i (dvs t b) := fun i => cdivZ (dvs_ne hb) (Nat.lt_of_le_of_lt (dvs_le hb) hB)
    exact ⟨_, rfl, _, rfl, t, _, rfl, rfl, hz _, _, rfl, _, rfl, b, _, rfl, rfl, hz _, (by show 2 ≤ sizeLine; decide), fun p hp => k p _ hp (same_upd hp) upd_same⟩
end

/-! ### lowest terms -/
theorem dvs_abs (t b : Int) : (dvs t b).natAbs = Nat.gcd t.natAbs b.natAbs := by
  unfold dvs
  split <;> omega
theorem dvs_dvd_t (t b : Int) : dvs t b ∣ t := Int.natAbs_dvd_natAbs.mp (by rw [dvs_abs]; exact Nat.gcd_dvd_left _ _)
theorem dvs_dvd_b (t b : Int) : dvs t b ∣ b := Int.natAbs_dvd_natAbs.mp (by rw [dvs_abs]; exact Nat.gcd_dvd_right _ _)
theorem fdiv_mul {a d : Int} (h : d ∣ a) : a.fdiv d * d = a := by
  obtain ⟨c, rfl⟩ := h
  by_cases hd : d = 0
  · subst hd; simp
  · rw [Int.mul_comm d c, Int.mul_fdiv_cancel _ hd]
theorem lowT_mul (t b : Int) : lowT t b * dvs t b = t := fdiv_mul (dvs_dvd_t t b)
theorem lowB_mul (t b : Int) : lowB t b * dvs t b = b := fdiv_mul (dvs_dvd_b t b)
theorem lowT_le {t b : Int} (h : b ≠ 0) : (lowT t b).natAbs ≤ t.natAbs := by
  have e := congrArg Int.natAbs (lowT_mul t b)
  rw [Int.natAbs_mul] at e
  have hd : 0 < (dvs t b).natAbs := by have := dvs_ne (t := t) h; omega
  rw [← e]
  exact Nat.le_mul_of_pos_right _ hd
theorem lowB_le {t b : Int} (h : b ≠ 0) : (lowB t b).natAbs ≤ b.natAbs := by
  have e := congrArg Int.natAbs (lowB_mul t b)
  rw [Int.natAbs_mul] at e
  have hd : 0 < (dvs t b).natAbs := by have := dvs_ne (t := t) h; omega
  rw [← e]
  exact Nat.le_mul_of_pos_right _ hd
theorem lowB_pos {t b : Int} (h : b ≠ 0) : 0 < lowB t b := by
  have e := lowB_mul t b
  have hg : 0 < Nat.gcd t.natAbs b.natAbs := Nat.gcd_pos_of_pos_right _ (by omega)
  by_cases hb : b < 0
  · have hd : dvs t b < 0 := by unfold dvs; rw [if_pos hb]; omega
    rcases Int.lt_trichotomy (lowB t b) 0 with q | q | q
    · have : 0 < lowB t b * dvs t b := Int.mul_pos_of_neg_of_neg q hd
      omega
    · rw [q, Int.zero_mul] at e; omega
    · exact q
  · have hd : 0 < dvs t b := by unfold dvs; rw [if_neg hb]; omega
    rcases Int.lt_trichotomy (lowB t b) 0 with q | q | q
    · have : lowB t b * dvs t b < 0 := Int.mul_neg_of_neg_of_pos q hd
      omega
    · rw [q, Int.zero_mul] at e; omega
    · exact q
theorem low_gcd {t b : Int} (h : b ≠ 0) : Nat.gcd (lowT t b).natAbs (lowB t b).natAbs = 1 := by
  have e1 := congrArg Int.natAbs (lowT_mul t b)
  have e2 := congrArg Int.natAbs (lowB_mul t b)
  rw [Int.natAbs_mul, dvs_abs] at e1 e2
  have hg : 0 < Nat.gcd t.natAbs b.natAbs := Nat.gcd_pos_of_pos_right _ (by omega)
  have e3 : Nat.gcd (lowT t b).natAbs (lowB t b).natAbs * Nat.gcd t.natAbs b.natAbs = 1 * Nat.gcd t.natAbs b.natAbs := by
    rw [← Nat.gcd_mul_right, e1, e2, Nat.one_mul]
  exact Nat.eq_of_mul_eq_mul_right hg e3
theorem low_same {t b : Int} (hb : 0 < b) (hg : Nat.gcd t.natAbs b.natAbs = 1) : lowT t b = t ∧ lowB t b = b := by
  have e : dvs t b = 1 := by
    unfold dvs
    rw [if_neg (by omega), hg]
    rfl
  unfold lowT lowB
  rw [e, Int.fdiv_one, Int.fdiv_one]
  exact ⟨rfl, rfl⟩
theorem low_low {t b : Int} (h : b ≠ 0) : lowT (lowT t b) (lowB t b) = lowT t b ∧ lowB (lowT t b) (lowB t b) = lowB t b := low_same (lowB_pos h) (low_gcd h)

/-! ### sums, products, differences -/
section
variable {P : Program} {w : World} {K : PySem.W.Frag} {mg : Str → Option Value} {base : Heap}
def Low (t b : Int) : Prop := 0 < b ∧ Nat.gcd t.natAbs b.natAbs = 1
theorem Low.of {t b : Int} (h : b ≠ 0) : Low (lowT t b) (lowB t b) := ⟨lowB_pos h, low_gcd h⟩
theorem Low.neg {t b : Int} (h : Low t b) : Low (-t) b := ⟨h.1, by rw [Int.natAbs_neg]; exact h.2⟩
theorem Low.one (t : Int) : Low t 1 := ⟨by decide, by simp⟩
theorem Low.ne {t b : Int} (h : Low t b) : b ≠ 0 := by have := h.1; omega
theorem Low.tt {t b : Int} (h : Low t b) : lowT t b = t := (low_same h.1 h.2).1
theorem Low.bb {t b : Int} (h : Low t b) : lowB t b = b := (low_same h.1 h.2).2
theorem dvs_scale {k t b : Int} (hk : k ≠ 0) (hb : b ≠ 0) : dvs (k * t) (k * b) = k * dvs t b := by
  have eg : Nat.gcd (k * t).natAbs (k * b).natAbs = k.natAbs * Nat.gcd t.natAbs b.natAbs := by rw [Int.natAbs_mul, Int.natAbs_mul, Nat.gcd_mul_left]
  unfold dvs
  rw [eg, Int.natCast_mul]
  generalize ((Nat.gcd t.natAbs b.natAbs : Nat) : Int) = g
  rcases Int.lt_or_gt_of_ne hk with q | q <;> rcases Int.lt_or_gt_of_ne hb with r | r
  · have : 0 < k * b := Int.mul_pos_of_neg_of_neg q r
    rw [if_neg (by omega), if_pos r, show ((k.natAbs : Nat) : Int) = -k by omega, Int.neg_mul, Int.mul_neg]
  · have : k * b < 0 := Int.mul_neg_of_neg_of_pos q r
    rw [if_pos this, if_neg (by omega), show ((k.natAbs : Nat) : Int) = -k by omega, Int.neg_mul, Int.neg_neg]
  · have : k * b < 0 := Int.mul_neg_of_pos_of_neg q r
    rw [if_pos this, if_pos r, show ((k.natAbs : Nat) : Int) = k by omega, Int.mul_neg]
  · have : 0 < k * b := Int.mul_pos q r
    rw [if_neg (by omega), if_neg (by omega), show ((k.natAbs : Nat) : Int) = k by omega]
theorem fdiv_scale {k a d : Int} (hk : k ≠ 0) (hd : d ≠ 0) (h : d ∣ a) : (k * a).fdiv (k * d) = a.fdiv d := by
  obtain ⟨c, rfl⟩ := h
  have e : k * (d * c) = c * (k * d) := by rw [Int.mul_comm c, Int.mul_assoc]
  rw [e, Int.mul_fdiv_cancel _ (Int.mul_ne_zero hk hd), Int.mul_comm d c, Int.mul_fdiv_cancel _ hd]
theorem low_scale {k t b : Int} (hk : k ≠ 0) (hb : b ≠ 0) : lowT (k * t) (k * b) = lowT t b ∧ lowB (k * t) (k * b) = lowB t b := by
  unfold lowT lowB
  rw [dvs_scale hk hb]
  exact ⟨fdiv_scale hk (dvs_ne hb) (dvs_dvd_t t b), fdiv_scale hk (dvs_ne hb) (dvs_dvd_b t b)⟩
/-- divided by x / y, that is, times the lowest terms of y / x -/
theorem low_over {t b x y : Int} (hy : y ≠ 0) (hb : b ≠ 0) : lowT (t * x) (b * y) = lowT (t * lowT x y) (b * lowB x y) ∧ lowB (t * x) (b * y) = lowB (t * lowT x y) (b * lowB x y) := by
  have h := low_scale (k := dvs x y) (t := t * lowT x y) (b := b * lowB x y) (dvs_ne hy) (Int.mul_ne_zero hb (by have := lowB_pos (t := x) hy; omega))
  have e1 : dvs x y * (t * lowT x y) = t * x := by rw [Int.mul_comm, Int.mul_assoc, lowT_mul]
  have e2 : dvs x y * (b * lowB x y) = b * y := by rw [Int.mul_comm, Int.mul_assoc, lowB_mul]
  rw [e1, e2] at h
  exact h
def SM (z : Int) : Prop := z.natAbs < 2 ^ 3900
theorem sm_mul {a b : Int} (ha : SM a) (hb : SM b) : CMulW a b := wide_mul (a := 3900) (b := 3900) ha hb (by decide) (by decide) (by decide)
theorem big_mul {a b : Int} (ha : SM a) (hb : SM b) : BIG (a * b) := by
  show (a * b).natAbs < 2 ^ 8000
  rw [Int.natAbs_mul]
  exact Nat.lt_of_le_of_lt (Nat.mul_le_mul (Nat.le_of_lt ha) (Nat.le_of_lt hb)) (by decide +kernel)
theorem SM.big {a : Int} (h : SM a) : BIG a := Nat.lt_of_lt_of_le h (by decide +kernel)
theorem SM.neg {a : Int} (h : SM a) : SM (-a) := by unfold SM; rw [Int.natAbs_neg]; exact h
theorem sm_one : SM 1 := by show (1 : Nat) < 2 ^ 3900; decide +kernel
/-- a ratio, or an int as one -/
def Num (C : Addr) (H : Hp) (v : V) (t b : Int) : Prop := (v = .int t ∧ b = 1) ∨ ∃ p, v = .ref p ∧ RatAt C H p t b
theorem RatAt.on {C : Addr} {H H' : Hp} {p : Addr} {t b : Int} (r : RatAt C H p t b) (s : Same H H') : RatAt C H' p t b := let ⟨dx, h⟩ := r; ⟨dx, s _ _ h⟩
theorem Num.on {C : Addr} {H H' : Hp} {v : V} {t b : Int} (n : Num C H v t b) (s : Same H H') : Num C H' v t b := n.elim .inl fun ⟨p, e, r⟩ => .inr ⟨p, e, r.on s⟩
def spNum (C : Addr) : Sp := fun vs H Q _ => ∃ (v : V) (t b : Int), vs = [v] ∧ Num C H v t b ∧ ∀ p H', Same H H' → RatAt C H' p t b → Q (.ref p) H'
theorem ok_asN (T : Txt K mg) : FnOk P w K mg base CX0 3 T.f_as_ratio T.d_as_ratio ["value"] (spNum T.f_Ratio) := by
  have G_Ratio_init : FnOk P w K mg base CX0 1 T.f_Ratio_init T.d_Ratio_init ["self", "top", "bottom"] (spInit T.f_Ratio) := ok_init T
  refine T.F_as_ratio.ok sc_as_ratio (fun vs H Q E h => ?_) (fun cdv A outer s H vs Q E hr h => ?_)
  · obtain ⟨v, t, b, rfl, _⟩ := h
    rfl
  · obtain ⟨v, t, b, rfl, n, k⟩ := h
    refine ⟨_, (pss_cons (ps_if (pt_val (pe_callB call_isi (by rfl) T.n_isinstance (by decide +kernel) (pa_cons (pv 0) (pa_cons (pe_glob (v := .ref T.f_Ratio) rfl T.m_Ratio rfl) pa_nil))))
      (pss_one (ps_ret (pv 0)))
      pss_nil)
    (pss_one (ps_ret (pe_make T.mk_Ratio G_Ratio_init (hr.mono (by decide)) rfl T.m_Ratio T.b1_Ratio_init T.v1_Ratio_init pass0 (pa_cons (pv 0) pa_nil))))), ?_⟩
    rcases n with ⟨rfl, rfl⟩ | ⟨p, rfl, r⟩
    · refine ⟨_, rfl, .int t, .ref T.f_Ratio, .type "int", .ref T.f_Ratio, false, rfl, .own _, .base (.int _), T.ki_Ratio_int, false, rfl, iteF ?_⟩
      refine ⟨_, rfl, made_rat (by decide) big_one fun x H' nx sm r => ?_⟩
      rw [(low_one t).1, (low_one t).2] at r
      exact k x H' sm r
    · exact ⟨_, rfl, .ref p, .ref T.f_Ratio, .ref T.f_Ratio, .ref T.f_Ratio, true, rfl, .own _, tyR T.ic_Ratio r, kit_self, true, rfl, iteT ⟨_, rfl, k p H (Same.refl H) r⟩⟩
/-- a new ratio, in lowest terms -/
def Res (C : Addr) (H : Hp) (x y : Int) (Q : VK) : Prop := ∀ q H', H q = none → Same H H' → RatAt C H' q (lowT x y) (lowB x y) → Q (.ref q) H'
def spAdd (C : Addr) : Sp := fun vs H Q _ => ∃ (p : Addr) (y : V) (t b t' b' : Int), vs = [.ref p, y] ∧ RatAt C H p t b ∧ Num C H y t' b' ∧ SM t ∧ SM b ∧ SM t' ∧ SM b' ∧ b ≠ 0 ∧ b' ≠ 0 ∧ Res C H (t * b' + t' * b) (b * b') Q
def spMul (C : Addr) : Sp := fun vs H Q _ => ∃ (p : Addr) (y : V) (t b t' b' : Int), vs = [.ref p, y] ∧ RatAt C H p t b ∧ Num C H y t' b' ∧ SM t ∧ SM b ∧ SM t' ∧ SM b' ∧ b ≠ 0 ∧ b' ≠ 0 ∧ Res C H (t * t') (b * b') Q
def spOver (C : Addr) : Sp := fun vs H Q _ => ∃ (p : Addr) (y : V) (t b t' b' : Int), vs = [.ref p, y] ∧ RatAt C H p t b ∧ Num C H y t' b' ∧ SM t ∧ SM b ∧ SM t' ∧ SM b' ∧ b ≠ 0 ∧ t' ≠ 0 ∧ Res C H (t * b') (b * t') Q
def spBelow (C : Addr) : Sp := fun vs H Q _ => ∃ (p : Addr) (y : V) (t b t' b' : Int), vs = [.ref p, y] ∧ RatAt C H p t b ∧ Num C H y t' b' ∧ SM t ∧ SM b ∧ SM t' ∧ SM b' ∧ ∀ H', Same H H' → Q (.bl (decide (t * b' < t' * b))) H'
def spNeg (C : Addr) : Sp := fun vs H Q _ => ∃ (p : Addr) (t b : Int), vs = [.ref p] ∧ RatAt C H p t b ∧ Low t b ∧ SM b ∧ ∀ q H', H q = none → Same H H' → RatAt C H' q (-t) b → Q (.ref q) H'
def spEqB (C : Addr) : Sp := fun vs H Q _ => ∃ (p q : Addr) (t b t' b' : Int), vs = [.ref p, .ref q] ∧ RatAt C H p t b ∧ RatAt C H q t' b' ∧ Q (.bl (decide (t = t' ∧ b = b'))) H
end

section
variable {P : Program} {w : World} {K : PySem.W.Frag} {mg : Str → Option Value} {base : Heap}
theorem ok_add (T : Txt K mg) : FnOk P w K mg base CX0 4 T.f_Ratio_add T.d_Ratio_add ["self", "other"] (spAdd T.f_Ratio) := by
  have G_Ratio_init : FnOk P w K mg base CX0 1 T.f_Ratio_init T.d_Ratio_init ["self", "top", "bottom"] (spInit T.f_Ratio) := ok_init T
  have G_Ratio_top : FnOk P w K mg base CX0 1 T.f_Ratio_top T.d_Ratio_top ["self"] (spTop T.f_Ratio) := ok_top T
  have G_Ratio_bottom : FnOk P w K mg base CX0 1 T.f_Ratio_bottom T.d_Ratio_bottom ["self"] (spBottom T.f_Ratio) := ok_bottom T
  have G_as_ratio : FnOk P w K mg base CX0 3 T.f_as_ratio T.d_as_ratio ["value"] (spNum T.f_Ratio) := ok_asN T
  refine T.F_Ratio_add.ok sc_Ratio_add (fun vs H Q E h => ?_) (fun cdv A outer s H vs Q E hr h => ?_)
  · obtain ⟨p, y, t, b, t', b', rfl, _⟩ := h
    rfl
  · obtain ⟨p, y, t, b, t', b', rfl, r, n, ht, hb, ht', hb', h0, h0', k⟩ := h
    refine ⟨_, (pss_cons (ps_set (i := 2) sc_Ratio_add.nd rfl (Or.inl rfl) (pe_call G_as_ratio (hr.mono (by decide)) rfl T.m_as_ratio T.F_as_ratio.kp T.b_as_ratio .nil pass0 (pa_cons (pv 1) pa_nil)))
    (pss_cons (ps_set (i := 3) sc_Ratio_add.nd rfl (Or.inl rfl) (pe_op op_add (pe_op op_mulW (pe_fld (pv 0) rfl) (pe_prop (pv 2) T.cl_Ratio T.p_Ratio_bottom G_Ratio_bottom (hr.mono (by decide)) T.b_Ratio_bottom .nil pass0 rfl)) (pe_op op_mulW (pe_prop (pv 2) T.cl_Ratio T.p_Ratio_top G_Ratio_top (hr.mono (by decide)) T.b_Ratio_top .nil pass0 rfl) (pe_fld (pv 0) rfl))))
    (pss_one (ps_ret (pe_make T.mk_Ratio G_Ratio_init (hr.mono (by decide)) rfl T.m_Ratio T.b2_Ratio_init T.v2_Ratio_init pass0 (pa_cons (pv 3) (pa_cons (pe_op op_mulW (pe_fld (pv 0) rfl) (pe_prop (pv 2) T.cl_Ratio T.p_Ratio_bottom G_Ratio_bottom (hr.mono (by decide)) T.b_Ratio_bottom .nil pass0 rfl)) pa_nil))))))), ?_⟩
    refine ⟨_, rfl, y, t', b', rfl, n, fun p' H1 s1 r1 => ?_⟩
    obtain ⟨dx, hp⟩ := r.on s1
    obtain ⟨dx', hp'⟩ := id r1
    refine ⟨_, rfl, p, T.f_Ratio, dx, _, _, rfl, hp, T.cl_Ratio, T.na_Ratio_top, rf_top _ _, _, rfl, p', dx', _, rfl, hp', p', t', b', rfl, r1, _, _, rfl, rfl, sm_mul ht hb', ?_⟩
    refine ⟨_, rfl, p', dx', _, rfl, hp', p', t', b', rfl, r1, _, rfl, p, T.f_Ratio, dx, _, _, rfl, hp, T.cl_Ratio, T.na_Ratio_bottom, rf_bottom _ _, _, _, rfl, rfl, sm_mul ht' hb, _, _, rfl, rfl, ?_⟩
    refine ⟨_, rfl, _, rfl, p, T.f_Ratio, dx, _, _, rfl, hp, T.cl_Ratio, T.na_Ratio_bottom, rf_bottom _ _, _, rfl, p', dx', _, rfl, hp', p', t', b', rfl, r1, _, _, rfl, rfl, sm_mul hb hb', ?_⟩
    exact made_rat (Int.mul_ne_zero h0 h0') (big_mul hb hb') fun q H' nq sq rq => k q H' (s1.free nq) (s1.trans sq) rq
end

section
variable {P : Program} {w : World} {K : PySem.W.Frag} {mg : Str → Option Value} {base : Heap}
theorem ok_over (T : Txt K mg) : FnOk P w K mg base CX0 4 T.f_Ratio_over T.d_Ratio_over ["self", "value"] (spOver T.f_Ratio) := by
  have G_Ratio_init : FnOk P w K mg base CX0 1 T.f_Ratio_init T.d_Ratio_init ["self", "top", "bottom"] (spInit T.f_Ratio) := ok_init T
  have G_Ratio_top : FnOk P w K mg base CX0 1 T.f_Ratio_top T.d_Ratio_top ["self"] (spTop T.f_Ratio) := ok_top T
  have G_Ratio_bottom : FnOk P w K mg base CX0 1 T.f_Ratio_bottom T.d_Ratio_bottom ["self"] (spBottom T.f_Ratio) := ok_bottom T
  have G_as_ratio : FnOk P w K mg base CX0 3 T.f_as_ratio T.d_as_ratio ["value"] (spNum T.f_Ratio) := ok_asN T
  refine T.F_Ratio_over.ok sc_Ratio_over (fun vs H Q E h => ?_) (fun cdv A outer s H vs Q E hr h => ?_)
  · obtain ⟨p, y, t, b, t', b', rfl, _⟩ := h
    rfl
  · obtain ⟨p, y, t, b, t', b', rfl, r, n, ht, hb, ht', hb', h0, h0', k⟩ := h
    refine ⟨_, PSs.nox (pss_cons (ps_set (i := 2) sc_Ratio_over.nd rfl (Or.inl rfl) (pe_call G_as_ratio (hr.mono (by decide)) rfl T.m_as_ratio T.F_as_ratio.kp T.b_as_ratio .nil pass0 (pa_cons (pv 1) pa_nil)))
    (pss_cons (ps_if (pt_cmpR op_eq (pe_prop (pv 2) T.cl_Ratio T.p_Ratio_top G_Ratio_top (hr.mono (by decide)) T.b_Ratio_top .nil pass0 rfl) pe_int (nomark _))
      (pss_one ps_never)
      pss_nil)
    (pss_one (ps_ret (pe_make T.mk_Ratio G_Ratio_init (hr.mono (by decide)) rfl T.m_Ratio T.b2_Ratio_init T.v2_Ratio_init pass0 (pa_cons (pe_op op_mulW (pe_fld (pv 0) rfl) (pe_prop (pv 2) T.cl_Ratio T.p_Ratio_bottom G_Ratio_bottom (hr.mono (by decide)) T.b_Ratio_bottom .nil pass0 rfl)) (pa_cons (pe_op op_mulW (pe_fld (pv 0) rfl) (pe_prop (pv 2) T.cl_Ratio T.p_Ratio_top G_Ratio_top (hr.mono (by decide)) T.b_Ratio_top .nil pass0 rfl)) pa_nil))))))), ?_⟩
    refine ⟨_, rfl, y, t', b', rfl, n, fun p' H1 s1 r1 => ?_⟩
    obtain ⟨dx, hp⟩ := r.on s1
    obtain ⟨dx', hp'⟩ := id r1
    refine ⟨_, rfl, p', dx', _, rfl, hp', p', t', b', rfl, r1, rfl, _, rfl, ite2 (fun hz => ?_) fun _ => ?_⟩
    · have e : V.int t' = V.int 0 := of_decide_eq_true hz
      injection e with e
      exact absurd e h0'
    refine ⟨_, rfl, p, T.f_Ratio, dx, _, _, rfl, hp, T.cl_Ratio, T.na_Ratio_top, rf_top _ _, _, rfl, p', dx', _, rfl, hp', p', t', b', rfl, r1, _, _, rfl, rfl, sm_mul ht hb', ?_⟩
    refine ⟨_, rfl, p, T.f_Ratio, dx, _, _, rfl, hp, T.cl_Ratio, T.na_Ratio_bottom, rf_bottom _ _, _, rfl, p', dx', _, rfl, hp', p', t', b', rfl, r1, _, _, rfl, rfl, sm_mul hb ht', ?_⟩
    exact made_rat (Int.mul_ne_zero h0 h0') (big_mul hb ht') fun q H' nq sq rq => k q H' (s1.free nq) (s1.trans sq) rq
end

section
variable {P : Program} {w : World} {K : PySem.W.Frag} {mg : Str → Option Value} {base : Heap}
theorem ok_below (T : Txt K mg) : FnOk P w K mg base CX0 4 T.f_Ratio_below T.d_Ratio_below ["self", "value"] (spBelow T.f_Ratio) := by
  have G_Ratio_top : FnOk P w K mg base CX0 1 T.f_Ratio_top T.d_Ratio_top ["self"] (spTop T.f_Ratio) := ok_top T
  have G_Ratio_bottom : FnOk P w K mg base CX0 1 T.f_Ratio_bottom T.d_Ratio_bottom ["self"] (spBottom T.f_Ratio) := ok_bottom T
  have G_as_ratio : FnOk P w K mg base CX0 3 T.f_as_ratio T.d_as_ratio ["value"] (spNum T.f_Ratio) := ok_asN T
  refine T.F_Ratio_below.ok sc_Ratio_below (fun vs H Q E h => ?_) (fun cdv A outer s H vs Q E hr h => ?_)
  · obtain ⟨p, y, t, b, t', b', rfl, _⟩ := h
    rfl
  · obtain ⟨p, y, t, b, t', b', rfl, r, n, ht, hb, ht', hb', k⟩ := h
    refine ⟨_, (pss_cons (ps_set (i := 2) sc_Ratio_below.nd rfl (Or.inl rfl) (pe_call G_as_ratio (hr.mono (by decide)) rfl T.m_as_ratio T.F_as_ratio.kp T.b_as_ratio .nil pass0 (pa_cons (pv 1) pa_nil)))
    (pss_one (ps_ret (pe_cmpR op_lt (pe_op op_mulW (pe_fld (pv 0) rfl) (pe_prop (pv 2) T.cl_Ratio T.p_Ratio_bottom G_Ratio_bottom (hr.mono (by decide)) T.b_Ratio_bottom .nil pass0 rfl)) (pe_op op_mulW (pe_prop (pv 2) T.cl_Ratio T.p_Ratio_top G_Ratio_top (hr.mono (by decide)) T.b_Ratio_top .nil pass0 rfl) (pe_fld (pv 0) rfl)) (nomark _))))), ?_⟩
    refine ⟨_, rfl, y, t', b', rfl, n, fun p' H1 s1 r1 => ?_⟩
    obtain ⟨dx, hp⟩ := r.on s1
    obtain ⟨dx', hp'⟩ := id r1
    refine ⟨_, rfl, p, T.f_Ratio, dx, _, _, rfl, hp, T.cl_Ratio, T.na_Ratio_top, rf_top _ _, _, rfl, p', dx', _, rfl, hp', p', t', b', rfl, r1, _, _, rfl, rfl, sm_mul ht hb', ?_⟩
    refine ⟨_, rfl, p', dx', _, rfl, hp', p', t', b', rfl, r1, _, rfl, p, T.f_Ratio, dx, _, _, rfl, hp, T.cl_Ratio, T.na_Ratio_bottom, rf_bottom _ _, _, _, rfl, rfl, sm_mul ht' hb, _, _, rfl, rfl, ?_⟩
    exact k H1 s1
end

section
variable {P : Program} {w : World} {K : PySem.W.Frag} {mg : Str → Option Value} {base : Heap}
theorem ok_neg (T : Txt K mg) : FnOk P w K mg base CX0 3 T.f_Ratio_neg T.d_Ratio_neg ["self"] (spNeg T.f_Ratio) := by
  have G_Ratio_init : FnOk P w K mg base CX0 1 T.f_Ratio_init T.d_Ratio_init ["self", "top", "bottom"] (spInit T.f_Ratio) := ok_init T
  refine T.F_Ratio_neg.ok sc_Ratio_neg (fun vs H Q E h => ?_) (fun cdv A outer s H vs Q E hr h => ?_)
  · obtain ⟨p, t, b, rfl, _⟩ := h
    rfl
  · obtain ⟨p, t, b, rfl, ⟨dx, hp⟩, hl, hb, k⟩ := h
    refine ⟨_, (pss_one (ps_ret (pe_make T.mk_Ratio G_Ratio_init (hr.mono (by decide)) rfl T.m_Ratio T.b2_Ratio_init T.v2_Ratio_init pass0 (pa_cons (pe_un un_neg (pe_fld (pv 0) rfl)) (pa_cons (pe_fld (pv 0) rfl) pa_nil))))), ?_⟩
    refine ⟨_, rfl, p, T.f_Ratio, dx, _, _, rfl, hp, T.cl_Ratio, T.na_Ratio_top, rf_top _ _, t, rfl, _, rfl, p, T.f_Ratio, dx, _, _, rfl, hp, T.cl_Ratio, T.na_Ratio_bottom, rf_bottom _ _, ?_⟩
    refine made_rat hl.ne hb.big fun q H' nq sq rq => ?_
    rw [hl.neg.tt, hl.neg.bb] at rq
    exact k q H' nq sq rq
end

section
variable {P : Program} {w : World} {K : PySem.W.Frag} {mg : Str → Option Value} {base : Heap}
theorem ok_eqB (T : Txt K mg) : FnOk P w K mg base CX0 1 T.f_Ratio_eq T.d_Ratio_eq ["self", "other"] (spEqB T.f_Ratio) := by
  refine T.F_Ratio_eq.ok sc_Ratio_eq (fun vs H Q E h => ?_) (fun cdv A outer s H vs Q E hr h => ?_)
  · obtain ⟨a, b, t, c, t', c', rfl, _⟩ := h
    rfl
  · obtain ⟨a, b, t, c, t', c', rfl, ra, rb, k⟩ := h
    obtain ⟨da, ha⟩ := id ra
    obtain ⟨db, hb⟩ := id rb
    refine ⟨_, (pss_one (ps_ret (pe_and (pe_callB call_isi (by rfl) T.n_isinstance (by decide +kernel) (pa_cons (pv 1) (pa_cons (pe_glob (v := .ref T.f_Ratio) rfl T.m_Ratio rfl) pa_nil))) (pe_and (pe_cmpR op_eq (pe_fld (pv 0) rfl) (pe_fld (pv 1) rfl) (nomark _)) (pe_one (pe_cmpR op_eq (pe_fld (pv 0) rfl) (pe_fld (pv 1) rfl) (nomark _))))))), ?_⟩
    refine ⟨_, rfl, .ref b, .ref T.f_Ratio, .ref T.f_Ratio, .ref T.f_Ratio, true, rfl, .own _, tyR T.ic_Ratio rb, kit_self, true, rfl, iteT ?_⟩
    refine ⟨_, rfl, a, T.f_Ratio, da, _, _, rfl, ha, T.cl_Ratio, T.na_Ratio_top, rf_top _ _, _, rfl, b, T.f_Ratio, db, _, _, rfl, hb, T.cl_Ratio, T.na_Ratio_top, rf_top _ _, rfl, ?_⟩
    by_cases e1 : t = t'
    · refine ⟨true, by rw [decide_eq_true (by rw [e1])], iteT ?_⟩
      refine ⟨_, rfl, a, T.f_Ratio, da, _, _, rfl, ha, T.cl_Ratio, T.na_Ratio_bottom, rf_bottom _ _, _, rfl, b, T.f_Ratio, db, _, _, rfl, hb, T.cl_Ratio, T.na_Ratio_bottom, rf_bottom _ _, rfl, ?_⟩
      have e : decide (V.int c = V.int c') = decide (t = t' ∧ c = c') := decide_eq_decide.mpr ⟨fun q => ⟨e1, by injection q⟩, fun q => by rw [q.2]⟩
      rw [e]
      exact k
    · refine ⟨false, by rw [decide_eq_false (fun q => e1 (by injection q))], iteF ?_⟩
      have e : decide (t = t' ∧ c = c') = false := decide_eq_false fun q => e1 q.1
      rw [e] at k
      exact k
end

section
variable {P : Program} {w : World} {K : PySem.W.Frag} {mg : Str → Option Value} {base : Heap}
/-- two equal ratios -/
def REq (C : Addr) : Addr → Addr → Hp → Prop := fun a b H => ∃ t c : Int, RatAt C H a t c ∧ RatAt C H b t c
theorem ok_eq (T : Txt K mg) : FnOk P w K mg base CX0 1 T.f_Ratio_eq T.d_Ratio_eq ["self", "other"] (spEq (REq T.f_Ratio)) := by
  refine T.F_Ratio_eq.ok sc_Ratio_eq (fun vs H Q E h => ?_) (fun cdv A outer s H vs Q E hr h => ?_)
  · obtain ⟨a, b, rfl, _⟩ := h
    rfl
  · obtain ⟨a, b, rfl, ⟨t, c, ra, rb⟩, k⟩ := h
    obtain ⟨da, ha⟩ := id ra
    obtain ⟨db, hb⟩ := id rb
    refine ⟨_, (pss_one (ps_ret (pe_and (pe_callB call_isi (by rfl) T.n_isinstance (by decide +kernel) (pa_cons (pv 1) (pa_cons (pe_glob (v := .ref T.f_Ratio) rfl T.m_Ratio rfl) pa_nil))) (pe_and (pe_cmpR op_eq (pe_fld (pv 0) rfl) (pe_fld (pv 1) rfl) (nomark _)) (pe_one (pe_cmpR op_eq (pe_fld (pv 0) rfl) (pe_fld (pv 1) rfl) (nomark _))))))), ?_⟩
    refine ⟨_, rfl, .ref b, .ref T.f_Ratio, .ref T.f_Ratio, .ref T.f_Ratio, true, rfl, .own _, tyR T.ic_Ratio rb, kit_self, true, rfl, iteT ?_⟩
    refine ⟨_, rfl, a, T.f_Ratio, da, _, _, rfl, ha, T.cl_Ratio, T.na_Ratio_top, rf_top _ _, _, rfl, b, T.f_Ratio, db, _, _, rfl, hb, T.cl_Ratio, T.na_Ratio_top, rf_top _ _, rfl, true, by rw [decide_eq_true rfl], iteT ?_⟩
    refine ⟨_, rfl, a, T.f_Ratio, da, _, _, rfl, ha, T.cl_Ratio, T.na_Ratio_bottom, rf_bottom _ _, _, rfl, b, T.f_Ratio, db, _, _, rfl, hb, T.cl_Ratio, T.na_Ratio_bottom, rf_bottom _ _, rfl, ?_⟩
    rw [decide_eq_true rfl]
    exact k _ fun _ _ z => z
end

/-! ### differences, least and greatest -/
section
variable {P : Program} {w : World} {K : PySem.W.Frag} {mg : Str → Option Value} {base : Heap}
def spSub (C : Addr) : Sp := fun vs H Q _ => ∃ (p : Addr) (y : V) (t b t' b' : Int), vs = [.ref p, y] ∧ RatAt C H p t b ∧ Num C H y t' b' ∧ SM t ∧ SM b ∧ SM t' ∧ SM b' ∧ b ≠ 0 ∧ Low t' b' ∧ Res C H (t * b' + -t' * b) (b * b') Q
def spRsub (C : Addr) : Sp := fun vs H Q _ => ∃ (p : Addr) (i t b : Int), vs = [.ref p, .int i] ∧ RatAt C H p t b ∧ SM t ∧ SM b ∧ SM i ∧ Low t b ∧ Res C H (-t * 1 + i * b) (b * 1) Q
/-- the least, the greatest -/
def pick (m v : Int × Int) : Int × Int := if v.1 * m.2 < m.1 * v.2 then v else m
def pickG (m v : Int × Int) : Int × Int := if m.1 * v.2 < v.1 * m.2 then v else m
def foldP (f : Int × Int → Int × Int → Int × Int) : List (Int × Int) → Int × Int
  | [] => (0, 1)
  | v :: r => r.foldl f v
def ngP (v : Int × Int) : Int × Int := (-v.1, v.2)
theorem pick_neg (m v : Int × Int) : pick (ngP m) (ngP v) = ngP (pickG m v) := by
  unfold pick pickG ngP
  simp only
  have e : (-v.1 * m.2 < -m.1 * v.2) ↔ (m.1 * v.2 < v.1 * m.2) := by rw [Int.neg_mul, Int.neg_mul]; omega
  by_cases h : m.1 * v.2 < v.1 * m.2
  · rw [if_pos (e.mpr h), if_pos h]
  · rw [if_neg (fun q => h (e.mp q)), if_neg h]
theorem fold_neg : ∀ (l : List (Int × Int)) (m : Int × Int), (l.map ngP).foldl pick (ngP m) = ngP (l.foldl pickG m)
  | [], m => rfl
  | v :: r, m => by
    show (r.map ngP).foldl pick (pick (ngP m) (ngP v)) = ngP (r.foldl pickG (pickG m v))
    rw [pick_neg]
    exact fold_neg r _
theorem least_neg {ps : List (Int × Int)} (h : ps ≠ []) : foldP pick (ps.map ngP) = ngP (foldP pickG ps) := by
  cases ps with
  | nil => exact absurd rfl h
  | cons v r => exact fold_neg r v
/-- small and in lowest terms -/
def Fine (v : Int × Int) : Prop := Low v.1 v.2 ∧ SM v.1 ∧ SM v.2
theorem Fine.ng {v : Int × Int} (h : Fine v) : Fine (ngP v) := ⟨h.1.neg, h.2.1.neg, h.2.2⟩
theorem fine_pick {m v : Int × Int} (a : Fine m) (b : Fine v) : Fine (pick m v) := by unfold pick; split <;> assumption
theorem fine_fold : ∀ (l : List (Int × Int)) (m : Int × Int), Fine m → (∀ v ∈ l, Fine v) → Fine (l.foldl pick m)
  | [], m, h, _ => h
  | v :: r, m, h, k => fine_fold r _ (fine_pick h (k v List.mem_cons_self)) fun u hu => k u (List.mem_cons_of_mem _ hu)
theorem fine_least {ps : List (Int × Int)} (h : ps ≠ []) (k : ∀ v ∈ ps, Fine v) : Fine (foldP pick ps) := by
  cases ps with
  | nil => exact absurd rfl h
  | cons v r => exact fine_fold r v (k v List.mem_cons_self) fun u hu => k u (List.mem_cons_of_mem _ hu)
/-- the items of a list or tuple, and their values -/
structure Nums (C : Addr) (H : Hp) (xs : List V) (ps : List (Int × Int)) : Prop where
  len : xs.length = ps.length
  at_ : ∀ (i : Nat) (x : V) (p : Int × Int), xs[i]? = some x → ps[i]? = some p → Num C H x p.1 p.2
  fine : ∀ p ∈ ps, Fine p
theorem Nums.on {C : Addr} {H H' : Hp} {xs : List V} {ps : List (Int × Int)} (n : Nums C H xs ps) (s : Same H H') : Nums C H' xs ps := ⟨n.len, fun i x p a b => (n.at_ i x p a b).on s, n.fine⟩
theorem RatAt.put {C : Addr} {H : Hp} {p D : Addr} {t b : Int} {ys zs : List V} (r : RatAt C H p t b) (h : H D = some (.lst ys)) : RatAt C (upd H D (.lst zs)) p t b := by
  obtain ⟨dx, e⟩ := r
  have n : p ≠ D := fun q => by rw [q, h] at e; cases e
  exact ⟨dx, by rw [upd_ne n]; exact e⟩
theorem Num.put {C : Addr} {H : Hp} {v : V} {D : Addr} {t b : Int} {ys zs : List V} (r : Num C H v t b) (h : H D = some (.lst ys)) : Num C (upd H D (.lst zs)) v t b := r.elim .inl fun ⟨p, e, r⟩ => .inr ⟨p, e, r.put h⟩
theorem Nums.put {C : Addr} {H : Hp} {D : Addr} {xs ys zs : List V} {ps : List (Int × Int)} (n : Nums C H xs ps) (h : H D = some (.lst ys)) : Nums C (upd H D (.lst zs)) xs ps := ⟨n.len, fun i x p a b => (n.at_ i x p a b).put h, n.fine⟩
theorem Nums.nil {C : Addr} {H : Hp} : Nums C H [] [] := ⟨rfl, fun i x p a _ => by simp at a, fun p h => by simp at h⟩
theorem Nums.cons {C : Addr} {H : Hp} {x : V} {p : Int × Int} {xs : List V} {ps : List (Int × Int)} (n : Num C H x p.1 p.2) (f : Fine p) (r : Nums C H xs ps) : Nums C H (x :: xs) (p :: ps) := by
  refine ⟨by rw [List.length_cons, List.length_cons, r.len], fun i y q a b => ?_, fun q h => ?_⟩
  · cases i with
    | zero =>
      simp at a b
      subst a; subst b
      exact n
    | succ i =>
      simp at a b
      exact r.at_ i y q a b
  · rcases List.mem_cons.mp h with rfl | h
    · exact f
    · exact r.fine q h
theorem Nums.snoc {C : Addr} {H : Hp} {x : V} {p : Int × Int} : ∀ {xs : List V} {ps : List (Int × Int)}, Nums C H xs ps → Num C H x p.1 p.2 → Fine p → Nums C H (xs ++ [x]) (ps ++ [p])
  | [], [], _, n, f => Nums.cons n f Nums.nil
  | [], _ :: _, r, _, _ => by have := r.len; simp at this
  | _ :: _, [], r, _, _ => by have := r.len; simp at this
  | y :: ys, q :: qs, r, n, f => by
    refine Nums.cons (r.at_ 0 y q rfl rfl) (r.fine q List.mem_cons_self) (Nums.snoc ⟨?_, fun i x p a b => r.at_ (i + 1) x p (by simpa using a) (by simpa using b), fun p h => r.fine p (List.mem_cons_of_mem _ h)⟩ n f)
    have := r.len
    simpa using this
theorem Nums.get {C : Addr} {H : Hp} {xs : List V} {ps : List (Int × Int)} (n : Nums C H xs ps) {i : Nat} {x : V} (h : xs[i]? = some x) : ∃ p, ps[i]? = some p ∧ Num C H x p.1 p.2 ∧ Fine p := by
  have hi : i < ps.length := by rw [← n.len]; exact (List.getElem?_eq_some_iff.mp h).1
  exact ⟨ps[i], List.getElem?_eq_getElem hi, n.at_ i x _ h (List.getElem?_eq_getElem hi), n.fine _ (List.getElem_mem hi)⟩
theorem fold_more {f : Int × Int → Int × Int → Int × Int} {l : List (Int × Int)} {i : Nat} {m v : Int × Int} (h : l[i]? = some v) : (l.take (i + 1)).foldl f m = f ((l.take i).foldl f m) v := by
  rw [take_more h, List.foldl_append]
  rfl
theorem nBe1 : (("below" : Str) == ("_top" : Str)) = false := by decide +kernel
theorem nBe2 : (("below" : Str) == ("_bottom" : Str)) = false := by decide +kernel
theorem rf_below (t b : Int) : (rf t b).lookup ("below" : Str) = none := by simp [rf, List.lookup, nBe1, nBe2]
theorem nOv1 : (("over" : Str) == ("_top" : Str)) = false := by decide +kernel
theorem nOv2 : (("over" : Str) == ("_bottom" : Str)) = false := by decide +kernel
theorem rf_over (t b : Int) : (rf t b).lookup ("over" : Str) = none := by simp [rf, List.lookup, nOv1, nOv2]
def SqA (K : PySem.W.Frag) (H : Hp) (l : Addr) (xs : List V) : Prop := SqL K H l xs ∨ SqT K H l xs
theorem ix_seq {H : Hp} {l : Addr} {xs : List V} {i : Int} {v : V} {Q : VK} (h : SqA K H l xs) (e : atI xs i = some v) (q : Q v H) : rIxL K (.ref l) (.int i) H Q ∨ rIxT K (.ref l) (.int i) H Q :=
  h.elim (fun h => .inl ⟨l, xs, i, v, rfl, rfl, h, e, q⟩) fun h => .inr ⟨l, xs, i, v, rfl, rfl, h, e, q⟩
end

section
variable {P : Program} {w : World} {K : PySem.W.Frag} {mg : Str → Option Value} {base : Heap}
theorem ok_sub (T : Txt K mg) : FnOk P w K mg base CX0 5 T.f_Ratio_sub T.d_Ratio_sub ["self", "other"] (spSub T.f_Ratio) := by
  have G_Ratio_add : FnOk P w K mg base CX0 4 T.f_Ratio_add T.d_Ratio_add ["self", "other"] (spAdd T.f_Ratio) := ok_add T
  have G_Ratio_neg : FnOk P w K mg base CX0 3 T.f_Ratio_neg T.d_Ratio_neg ["self"] (spNeg T.f_Ratio) := ok_neg T
  refine T.F_Ratio_sub.ok sc_Ratio_sub (fun vs H Q E h => ?_) (fun cdv A outer s H vs Q E hr h => ?_)
  · obtain ⟨p, y, t, b, t', b', rfl, _⟩ := h
    rfl
  · obtain ⟨p, y, t, b, t', b', rfl, r, n, ht, hb, ht', hb', h0, hl, k⟩ := h
    obtain ⟨dx, hp⟩ := id r
    refine ⟨_, (pss_one (ps_ret (pe_op (op_or (op_oo (nm := "add") rfl T.op_Ratio_add G_Ratio_add (hr.mono (by decide)) T.b_Ratio_add pass0) (op_oi (nm := "add") rfl T.op_Ratio_add G_Ratio_add (hr.mono (by decide)) T.b_Ratio_add pass0)) (pv 0) (pe_un (un_or un_neg (un_negO T.a_Ratio_neg T.i_Ratio_neg G_Ratio_neg (hr.mono (by decide)) T.b_Ratio_neg pass0)) (pv 1))))), ?_⟩
    rcases n with ⟨rfl, rfl⟩ | ⟨q, rfl, rq⟩
    · exact ⟨_, rfl, _, rfl, .inl ⟨t', rfl, .inr ⟨p, dx, _, -t', rfl, rfl, hp, p, _, t, b, -t', 1, rfl, r, .inl ⟨rfl, rfl⟩, ht, hb, ht'.neg, hb', h0, by decide, k⟩⟩⟩
    · obtain ⟨dq, hq⟩ := id rq
      refine ⟨_, rfl, _, rfl, .inr ⟨q, dq, _, rfl, hq, q, t', b', rfl, rq, hl, hb', fun o H1 no s1 ro => ?_⟩⟩
      obtain ⟨d0, ho⟩ := id ro
      exact .inl ⟨p, dx, _, o, d0, _, rfl, rfl, s1 _ _ hp, ho, p, _, t, b, -t', b', rfl, r.on s1, .inr ⟨o, rfl, ro⟩, ht, hb, ht'.neg, hb', h0, hl.ne, fun q' H' nq sq rq' => k q' H' (s1.free nq) (s1.trans sq) rq'⟩
end

/-! ### pairs of ints -/
section
variable {P : Program} {w : World} {K : PySem.W.Frag} {mg : Str → Option Value} {base : Heap}
def PairAt (H : Hp) (q : Addr) (t b : Int) : Prop := H q = some (.tup [.int t, .int b])
def ResP (H : Hp) (x y : Int) (Q : VK) : Prop := ∀ o H', H o = none → Same H H' → PairAt H' o (lowT x y) (lowB x y) → Q (.ref o) H'
def spPlus : Sp := fun vs H Q _ => ∃ (q q' : Addr) (t b t' b' : Int), vs = [.ref q, .ref q'] ∧ PairAt H q t b ∧ PairAt H q' t' b' ∧ SM t ∧ SM b ∧ SM t' ∧ SM b' ∧ b ≠ 0 ∧ b' ≠ 0 ∧ ResP H (t * b' + t' * b) (b * b') Q
def spTimes : Sp := fun vs H Q _ => ∃ (q q' : Addr) (t b t' b' : Int), vs = [.ref q, .ref q'] ∧ PairAt H q t b ∧ PairAt H q' t' b' ∧ SM t ∧ SM b ∧ SM t' ∧ SM b' ∧ b ≠ 0 ∧ b' ≠ 0 ∧ ResP H (t * t') (b * b') Q
def spLess : Sp := fun vs H Q _ => ∃ (q q' : Addr) (t b t' b' : Int), vs = [.ref q, .ref q'] ∧ PairAt H q t b ∧ PairAt H q' t' b' ∧ SM t ∧ SM b ∧ SM t' ∧ SM b' ∧ Q (.bl (decide (t * b' < t' * b))) H
end

section
variable {P : Program} {w : World} {K : PySem.W.Frag} {mg : Str → Option Value} {base : Heap}
theorem ok_plus (T : Txt K mg) : FnOk P w K mg base CX0 2 T.f_plus T.d_plus ["_law_one", "_law_two"] spPlus := by
  have G_low : FnOk P w K mg base CX0 1 T.f_low T.d_low ["_law_up", "_law_down"] spLow := ok_low T
  refine T.F_plus.ok sc_plus (fun vs H Q E h => ?_) (fun cdv A outer s H vs Q E hr h => ?_)
  · obtain ⟨q, q', t, b, t', b', rfl, _⟩ := h
    rfl
  · obtain ⟨q, q', t, b, t', b', rfl, hq, hq', ht, hb, ht', hb', h0, h0', k⟩ := h
    refine ⟨_, (pss_one (ps_ret (pe_call G_low (hr.mono (by decide)) rfl T.m_low T.F_low.kp T.b_low .nil pass0 (pa_cons (pe_op op_add (pe_op op_mulW (pe_ix ix_tup (pv 0) pe_int (fun _ _ => rfl)) (pe_ix ix_tup (pv 1) pe_int (fun _ _ => rfl))) (pe_op op_mulW (pe_ix ix_tup (pv 1) pe_int (fun _ _ => rfl)) (pe_ix ix_tup (pv 0) pe_int (fun _ _ => rfl)))) (pa_cons (pe_op op_mulW (pe_ix ix_tup (pv 0) pe_int (fun _ _ => rfl)) (pe_ix ix_tup (pv 1) pe_int (fun _ _ => rfl))) pa_nil))))), ?_⟩
    refine ⟨_, rfl, q, _, 0, .int t, rfl, rfl, SqT.of hq, rfl, _, rfl, q', _, 1, .int b', rfl, rfl, SqT.of hq', rfl, _, _, rfl, rfl, sm_mul ht hb', ?_⟩
    refine ⟨_, rfl, q', _, 0, .int t', rfl, rfl, SqT.of hq', rfl, _, rfl, q, _, 1, .int b, rfl, rfl, SqT.of hq, rfl, _, _, rfl, rfl, sm_mul ht' hb, _, _, rfl, rfl, ?_⟩
    refine ⟨_, rfl, q, _, 1, .int b, rfl, rfl, SqT.of hq, rfl, _, rfl, q', _, 1, .int b', rfl, rfl, SqT.of hq', rfl, _, _, rfl, rfl, sm_mul hb hb', ?_⟩
    exact ⟨_, _, rfl, Int.mul_ne_zero h0 h0', big_mul hb hb', k⟩
end

section
variable {P : Program} {w : World} {K : PySem.W.Frag} {mg : Str → Option Value} {base : Heap}
theorem ok_times (T : Txt K mg) : FnOk P w K mg base CX0 2 T.f_times T.d_times ["_law_one", "_law_two"] spTimes := by
  have G_low : FnOk P w K mg base CX0 1 T.f_low T.d_low ["_law_up", "_law_down"] spLow := ok_low T
  refine T.F_times.ok sc_times (fun vs H Q E h => ?_) (fun cdv A outer s H vs Q E hr h => ?_)
  · obtain ⟨q, q', t, b, t', b', rfl, _⟩ := h
    rfl
  · obtain ⟨q, q', t, b, t', b', rfl, hq, hq', ht, hb, ht', hb', h0, h0', k⟩ := h
    refine ⟨_, (pss_one (ps_ret (pe_call G_low (hr.mono (by decide)) rfl T.m_low T.F_low.kp T.b_low .nil pass0 (pa_cons (pe_op op_mulW (pe_ix ix_tup (pv 0) pe_int (fun _ _ => rfl)) (pe_ix ix_tup (pv 1) pe_int (fun _ _ => rfl))) (pa_cons (pe_op op_mulW (pe_ix ix_tup (pv 0) pe_int (fun _ _ => rfl)) (pe_ix ix_tup (pv 1) pe_int (fun _ _ => rfl))) pa_nil))))), ?_⟩
    refine ⟨_, rfl, q, _, 0, .int t, rfl, rfl, SqT.of hq, rfl, _, rfl, q', _, 0, .int t', rfl, rfl, SqT.of hq', rfl, _, _, rfl, rfl, sm_mul ht ht', ?_⟩
    refine ⟨_, rfl, q, _, 1, .int b, rfl, rfl, SqT.of hq, rfl, _, rfl, q', _, 1, .int b', rfl, rfl, SqT.of hq', rfl, _, _, rfl, rfl, sm_mul hb hb', ?_⟩
    exact ⟨_, _, rfl, Int.mul_ne_zero h0 h0', big_mul hb hb', k⟩
end

section
variable {P : Program} {w : World} {K : PySem.W.Frag} {mg : Str → Option Value} {base : Heap}
theorem ok_less (T : Txt K mg) : FnOk P w K mg base CX0 1 T.f_less T.d_less ["_law_one", "_law_two"] spLess := by
  refine T.F_less.ok sc_less (fun vs H Q E h => ?_) (fun cdv A outer s H vs Q E hr h => ?_)
  · obtain ⟨q, q', t, b, t', b', rfl, _⟩ := h
    rfl
  · obtain ⟨q, q', t, b, t', b', rfl, hq, hq', ht, hb, ht', hb', k⟩ := h
    refine ⟨_, (pss_one (ps_ret (pe_cmpR op_lt (pe_op op_mulW (pe_ix ix_tup (pv 0) pe_int (fun _ _ => rfl)) (pe_ix ix_tup (pv 1) pe_int (fun _ _ => rfl))) (pe_op op_mulW (pe_ix ix_tup (pv 1) pe_int (fun _ _ => rfl)) (pe_ix ix_tup (pv 0) pe_int (fun _ _ => rfl))) (nomark _)))), ?_⟩
    refine ⟨_, rfl, q, _, 0, .int t, rfl, rfl, SqT.of hq, rfl, _, rfl, q', _, 1, .int b', rfl, rfl, SqT.of hq', rfl, _, _, rfl, rfl, sm_mul ht hb', ?_⟩
    exact ⟨_, rfl, q', _, 0, .int t', rfl, rfl, SqT.of hq', rfl, _, rfl, q, _, 1, .int b, rfl, rfl, SqT.of hq, rfl, _, _, rfl, rfl, sm_mul ht' hb, _, _, rfl, rfl, k⟩
end

section
variable {P : Program} {w : World} {K : PySem.W.Frag} {mg : Str → Option Value} {base : Heap}
def spMinus : Sp := fun vs H Q _ => ∃ (q q' : Addr) (t b t' b' : Int), vs = [.ref q, .ref q'] ∧ PairAt H q t b ∧ PairAt H q' t' b' ∧ SM t ∧ SM b ∧ SM t' ∧ SM b' ∧ b ≠ 0 ∧ b' ≠ 0 ∧ ResP H (t * b' + -t' * b) (b * b') Q
theorem ok_minus (T : Txt K mg) : FnOk P w K mg base CX0 3 T.f_minus T.d_minus ["_law_one", "_law_two"] spMinus := by
  have G_plus : FnOk P w K mg base CX0 2 T.f_plus T.d_plus ["_law_one", "_law_two"] spPlus := ok_plus T
  refine T.F_minus.ok sc_minus (fun vs H Q E h => ?_) (fun cdv A outer s H vs Q E hr h => ?_)
  · obtain ⟨q, q', t, b, t', b', rfl, _⟩ := h
    rfl
  · obtain ⟨q, q', t, b, t', b', rfl, hq, hq', ht, hb, ht', hb', h0, h0', k⟩ := h
    refine ⟨_, (pss_one (ps_ret (pe_call G_plus (hr.mono (by decide)) rfl T.m_plus T.F_plus.kp T.b_plus .nil pass0 (pa_cons (pv 0) (pa_cons (pe_tup (pa_cons (pe_un un_neg (pe_ix ix_tup (pv 1) pe_int (fun _ _ => rfl))) (pa_cons (pe_ix ix_tup (pv 1) pe_int (fun _ _ => rfl)) pa_nil))) pa_nil))))), ?_⟩
    refine ⟨_, rfl, _, rfl, q', _, 0, .int t', rfl, rfl, SqT.of hq', rfl, t', rfl, _, rfl, q', _, 1, .int b', rfl, rfl, SqT.of hq', rfl, (by show 2 ≤ sizeLine; decide), fun o ho => ?_⟩
    exact ⟨q, o, t, b, -t', b', rfl, same_upd ho _ _ hq, upd_same, ht, hb, ht'.neg, hb', h0, h0', fun y H' ny s py => k y H' ((same_upd ho).free ny) ((same_upd ho).trans s) py⟩
end

/-! ### ratios by their values -/
section
variable {P : Program} {w : World} {K : PySem.W.Frag} {mg : Str → Option Value} {base : Heap}
def vq (t b : Int) : Rat := (t : Rat) / (b : Rat)
theorem rat_ne {b : Int} (h : b ≠ 0) : (b : Rat) ≠ 0 := fun e => h (by exact_mod_cast e)
theorem rat_pos {b : Int} (h : 0 < b) : (0 : Rat) < (b : Rat) := by exact_mod_cast h
theorem vq_low {t b : Int} (h : b ≠ 0) : vq (lowT t b) (lowB t b) = vq t b := by
  have e1 : ((lowT t b : Int) : Rat) * (dvs t b : Rat) = (t : Rat) := by exact_mod_cast congrArg (fun z : Int => (z : Rat)) (lowT_mul t b)
  have e2 : ((lowB t b : Int) : Rat) * (dvs t b : Rat) = (b : Rat) := by exact_mod_cast congrArg (fun z : Int => (z : Rat)) (lowB_mul t b)
  have h1 := rat_ne h
  have h2 := rat_ne (dvs_ne (t := t) h)
  have h3 : ((lowB t b : Int) : Rat) ≠ 0 := rat_ne (by have := lowB_pos (t := t) h; omega)
  unfold vq
  generalize ((lowT t b : Int) : Rat) = x at *
  generalize ((lowB t b : Int) : Rat) = y at *
  generalize ((dvs t b : Int) : Rat) = d at *
  rw [← e1, ← e2]
  grind
theorem cross {t b t' b' : Int} (hb : b ≠ 0) (hb' : b' ≠ 0) (h : vq t b = vq t' b') : t * b' = t' * b := by
  have h1 := rat_ne hb
  have h2 := rat_ne hb'
  unfold vq at h
  have : (t : Rat) * (b' : Rat) = (t' : Rat) * (b : Rat) := by grind
  exact_mod_cast this
theorem low_unique {t b t' b' : Int} (h : Low t b) (h' : Low t' b') (e : vq t b = vq t' b') : t = t' ∧ b = b' := by
  have c := cross h.ne h'.ne e
  have l1 := low_scale (k := b') (t := t) (b := b) h'.ne h.ne
  have l2 := low_scale (k := b) (t := t') (b := b') h.ne h'.ne
  have e1 : b' * t = b * t' := by rw [Int.mul_comm b' t, c, Int.mul_comm]
  have e2 : b' * b = b * b' := Int.mul_comm _ _
  rw [e1, e2] at l1
  rw [h.tt, h.bb] at l1
  rw [h'.tt, h'.bb] at l2
  exact ⟨l1.1.symm.trans l2.1, l1.2.symm.trans l2.2⟩
theorem vq_add {t b t' b' : Int} (hb : b ≠ 0) (hb' : b' ≠ 0) : vq (t * b' + t' * b) (b * b') = vq t b + vq t' b' := by
  have h1 := rat_ne hb
  have h2 := rat_ne hb'
  unfold vq
  push_cast
  grind
theorem vq_mul {t b t' b' : Int} (hb : b ≠ 0) (hb' : b' ≠ 0) : vq (t * t') (b * b') = vq t b * vq t' b' := by
  have h1 := rat_ne hb
  have h2 := rat_ne hb'
  unfold vq
  push_cast
  grind
theorem vq_neg {t b : Int} : vq (-t) b = - vq t b := by
  unfold vq
  push_cast
  grind
theorem vq_over {t b t' b' : Int} (hb : b ≠ 0) (hb' : b' ≠ 0) (ht' : t' ≠ 0) : vq (t * b') (b * t') = vq t b / vq t' b' := by
  have h1 := rat_ne hb
  have h2 := rat_ne hb'
  have h3 := rat_ne ht'
  unfold vq
  push_cast
  grind
theorem vq_lt {t b t' b' : Int} (hb : 0 < b) (hb' : 0 < b') : t * b' < t' * b ↔ vq t b < vq t' b' := by
  have h1 := rat_pos hb
  have h2 := rat_pos hb'
  have e1 : vq t b * ((b : Rat) * (b' : Rat)) = (t : Rat) * (b' : Rat) := by unfold vq; have := rat_ne (show b ≠ 0 by omega); grind
  have e2 : vq t' b' * ((b : Rat) * (b' : Rat)) = (t' : Rat) * (b : Rat) := by unfold vq; have := rat_ne (show b' ≠ 0 by omega); grind
  have hp : (0 : Rat) < (b : Rat) * (b' : Rat) := Rat.mul_pos h1 h2
  constructor
  · intro h
    have h' : (t : Rat) * (b' : Rat) < (t' : Rat) * (b : Rat) := by exact_mod_cast h
    rw [← e1, ← e2] at h'
    refine Classical.byContradiction fun q => ?_
    have q' := Rat.mul_le_mul_of_nonneg_right (Rat.not_lt.mp q) (Rat.le_of_lt hp)
    exact absurd h' (Rat.not_lt.mpr q')
  · intro h
    have h' := Rat.mul_lt_mul_of_pos_right h hp
    rw [e1, e2] at h'
    exact_mod_cast h'
theorem vq_zero {b : Int} (hb : b ≠ 0) {t : Int} : vq t b = 0 ↔ t = 0 := by
  have h1 := rat_ne hb
  constructor
  · intro h
    have : (t : Rat) = 0 := by unfold vq at h; grind
    exact_mod_cast this
  · rintro rfl
    unfold vq
    push_cast
    grind
end

/-! ### promises by values -/
section
variable {P : Program} {w : World} {K : PySem.W.Frag} {mg : Str → Option Value} {base : Heap}
theorem at1 {α : Type} {x y : α} {xs : List α} : atI (x :: y :: xs) 1 = some y := atI_nat (j := 1) rfl
/-- fewer than n bits -/
def Sz (n : Nat) (t b : Int) : Prop := t.natAbs < 2 ^ n ∧ b.natAbs < 2 ^ n
theorem Sz.mono {n m : Nat} {t b : Int} (h : Sz n t b) (hn : n ≤ m) : Sz m t b := ⟨Nat.lt_of_lt_of_le h.1 (Nat.pow_le_pow_right (by decide) hn), Nat.lt_of_lt_of_le h.2 (Nat.pow_le_pow_right (by decide) hn)⟩
theorem Sz.sm {n : Nat} {t b : Int} (h : Sz n t b) (hn : n ≤ 3900) : SM t ∧ SM b := h.mono hn
theorem lt_mul {a b n m : Nat} (ha : a < 2 ^ n) (hb : b < 2 ^ m) : a * b < 2 ^ (n + m) := by
  rw [Nat.pow_add]
  exact Nat.mul_lt_mul'' ha hb
theorem Sz.mul {n m : Nat} {t b t' b' : Int} (h : Sz n t b) (h' : Sz m t' b') : Sz (n + m) (t * t') (b * b') := ⟨by rw [Int.natAbs_mul]; exact lt_mul h.1 h'.1, by rw [Int.natAbs_mul]; exact lt_mul h.2 h'.2⟩
theorem Sz.over {n m : Nat} {t b t' b' : Int} (h : Sz n t b) (h' : Sz m t' b') : Sz (n + m) (t * b') (b * t') := ⟨by rw [Int.natAbs_mul]; exact lt_mul h.1 h'.2, by rw [Int.natAbs_mul]; exact lt_mul h.2 h'.1⟩
theorem Sz.add {n m : Nat} {t b t' b' : Int} (h : Sz n t b) (h' : Sz m t' b') : Sz (n + m + 1) (t * b' + t' * b) (b * b') := by
  have h1 := lt_mul h.1 h'.2
  have h2 := lt_mul h'.1 h.2
  rw [Nat.add_comm m n] at h2
  have h3 := Int.natAbs_add_le (t * b') (t' * b)
  rw [Int.natAbs_mul, Int.natAbs_mul] at h3
  refine ⟨by rw [Nat.pow_succ]; omega, ?_⟩
  rw [Int.natAbs_mul]
  exact Nat.lt_of_lt_of_le (lt_mul h.2 h'.2) (Nat.pow_le_pow_right (by decide) (Nat.le_succ _))
theorem Sz.neg {n : Nat} {t b : Int} (h : Sz n t b) : Sz n (-t) b := ⟨by rw [Int.natAbs_neg]; exact h.1, h.2⟩
theorem Sz.low {n : Nat} {t b : Int} (h : Sz n t b) (hb : b ≠ 0) : Sz n (lowT t b) (lowB t b) := ⟨Nat.lt_of_le_of_lt (lowT_le hb) h.1, Nat.lt_of_le_of_lt (lowB_le hb) h.2⟩
/-- the ratio of this value stands at p -/
def RV (C : Addr) (H : Hp) (p : Addr) (x : Rat) (n : Nat) : Prop := ∃ t b, RatAt C H p t b ∧ Low t b ∧ vq t b = x ∧ Sz n t b
/-- a ratio or an int of this value -/
def NV (C : Addr) (H : Hp) (v : V) (x : Rat) (n : Nat) : Prop := ∃ t b, Num C H v t b ∧ Low t b ∧ vq t b = x ∧ Sz n t b
/-- the law's pair of this value -/
def PV (H : Hp) (q : Addr) (x : Rat) (n : Nat) : Prop := ∃ t b, PairAt H q t b ∧ Low t b ∧ vq t b = x ∧ Sz n t b
theorem PairAt.on' {H H' : Hp} {q : Addr} {t b : Int} (p : PairAt H q t b) (s : Same H H') : PairAt H' q t b := s _ _ p
theorem RV.on {C : Addr} {H H' : Hp} {p : Addr} {x : Rat} {n : Nat} (r : RV C H p x n) (s : Same H H') : RV C H' p x n := let ⟨t, b, h1, h2⟩ := r; ⟨t, b, h1.on s, h2⟩
theorem NV.on {C : Addr} {H H' : Hp} {p : V} {x : Rat} {n : Nat} (r : NV C H p x n) (s : Same H H') : NV C H' p x n := let ⟨t, b, h1, h2⟩ := r; ⟨t, b, h1.on s, h2⟩
theorem PV.on {H H' : Hp} {p : Addr} {x : Rat} {n : Nat} (r : PV H p x n) (s : Same H H') : PV H' p x n := let ⟨t, b, h1, h2⟩ := r; ⟨t, b, h1.on' s, h2⟩
theorem RV.mono {C : Addr} {H : Hp} {p : Addr} {x : Rat} {n m : Nat} (r : RV C H p x n) (h : n ≤ m) : RV C H p x m := let ⟨t, b, h1, h2, h3, h4⟩ := r; ⟨t, b, h1, h2, h3, h4.mono h⟩
theorem NV.mono {C : Addr} {H : Hp} {p : V} {x : Rat} {n m : Nat} (r : NV C H p x n) (h : n ≤ m) : NV C H p x m := let ⟨t, b, h1, h2, h3, h4⟩ := r; ⟨t, b, h1, h2, h3, h4.mono h⟩
theorem PV.mono {H : Hp} {p : Addr} {x : Rat} {n m : Nat} (r : PV H p x n) (h : n ≤ m) : PV H p x m := let ⟨t, b, h1, h2, h3, h4⟩ := r; ⟨t, b, h1, h2, h3, h4.mono h⟩
theorem RV.num {C : Addr} {H : Hp} {p : Addr} {x : Rat} {n : Nat} (r : RV C H p x n) : NV C H (.ref p) x n := let ⟨t, b, h1, h2⟩ := r; ⟨t, b, .inr ⟨p, rfl, h1⟩, h2⟩
theorem vq_one (t : Int) : vq t 1 = (t : Rat) := by
  unfold vq
  push_cast
  grind
theorem NV.int {C : Addr} {H : Hp} {n : Nat} (t : Int) (h : t.natAbs < 2 ^ n) (hn : 1 ≤ n) : NV C H (.int t) (t : Rat) n := ⟨t, 1, .inl ⟨rfl, rfl⟩, Low.one t, vq_one t, h, Nat.lt_of_lt_of_le (show 1 < 2 ^ 1 by decide) (Nat.pow_le_pow_right (by decide) hn)⟩
theorem RV.ins {C : Addr} {H : Hp} {p : Addr} {x : Rat} {n : Nat} (r : RV C H p x n) : ∃ dx fs, H p = some (.ins C dx fs) ∧ fs.lookup ("below" : Str) = none ∧ fs.lookup ("over" : Str) = none := by
  obtain ⟨t, b, ⟨dx, h⟩, _⟩ := r
  exact ⟨dx, _, h, rf_below _ _, rf_over _ _⟩
/-- both are ratios -/
theorem oo_of {C : Addr} {H : Hp} {p q : Addr} {x y : Rat} {n m : Nat} {sp : Sp} {E : XK} {Q : VK} (a : RV C H p x n) (b : RV C H q y m) (k : sp [.ref p, .ref q] H Q E) : rOO C sp E (.ref p) (.ref q) H Q := by
  obtain ⟨dx, fs, h, _⟩ := a.ins
  obtain ⟨dy, gs, h', _⟩ := b.ins
  exact ⟨p, dx, fs, q, dy, gs, rfl, rfl, h, h', k⟩
def ResV (C : Addr) (H : Hp) (x : Rat) (n : Nat) (Q : VK) : Prop := ∀ q H', H q = none → Same H H' → RV C H' q x n → Q (.ref q) H'
def ResPV (H : Hp) (x : Rat) (n : Nat) (Q : VK) : Prop := ∀ q H', H q = none → Same H H' → PV H' q x n → Q (.ref q) H'
def spAddV (C : Addr) : Sp := fun vs H Q _ => ∃ (p : Addr) (y : V) (x x' : Rat) (n n' : Nat), vs = [.ref p, y] ∧ RV C H p x n ∧ NV C H y x' n' ∧ n ≤ 3900 ∧ n' ≤ 3900 ∧ ResV C H (x + x') (n + n' + 1) Q
def spSubV (C : Addr) : Sp := fun vs H Q _ => ∃ (p : Addr) (y : V) (x x' : Rat) (n n' : Nat), vs = [.ref p, y] ∧ RV C H p x n ∧ NV C H y x' n' ∧ n ≤ 3900 ∧ n' ≤ 3900 ∧ ResV C H (x - x') (n + n' + 1) Q
def spMulV (C : Addr) : Sp := fun vs H Q _ => ∃ (p : Addr) (y : V) (x x' : Rat) (n n' : Nat), vs = [.ref p, y] ∧ RV C H p x n ∧ NV C H y x' n' ∧ n ≤ 3900 ∧ n' ≤ 3900 ∧ ResV C H (x * x') (n + n') Q
def spOverV (C : Addr) : Sp := fun vs H Q _ => ∃ (p : Addr) (y : V) (x x' : Rat) (n n' : Nat), vs = [.ref p, y] ∧ RV C H p x n ∧ NV C H y x' n' ∧ n ≤ 3900 ∧ n' ≤ 3900 ∧ x' ≠ 0 ∧ ResV C H (x / x') (n + n') Q
def spBelowV (C : Addr) : Sp := fun vs H Q _ => ∃ (p : Addr) (y : V) (x x' : Rat) (n n' : Nat), vs = [.ref p, y] ∧ RV C H p x n ∧ NV C H y x' n' ∧ n ≤ 3900 ∧ n' ≤ 3900 ∧ ∀ H', Same H H' → Q (.bl (decide (x < x'))) H'
def spAsV (C : Addr) : Sp := fun vs H Q _ => ∃ (v : V) (x : Rat) (n : Nat), vs = [v] ∧ NV C H v x n ∧ ∀ p H', Same H H' → RV C H' p x n → Q (.ref p) H'
def spEqV (C : Addr) : Sp := fun vs H Q _ => ∃ (p q : Addr) (x y : Rat) (n m : Nat), vs = [.ref p, .ref q] ∧ RV C H p x n ∧ RV C H q y m ∧ Q (.bl (decide (x = y))) H
theorem okv_add (T : Txt K mg) : FnOk P w K mg base CX0 4 T.f_Ratio_add T.d_Ratio_add ["self", "other"] (spAddV T.f_Ratio) := (ok_add T).imp fun vs H Q E ⟨p, y, x, x', n, n', e, ⟨t, b, r, l, ev, sz⟩, ⟨t', b', nm, l', ev', sz'⟩, hn, hn', k⟩ =>
  ⟨p, y, t, b, t', b', e, r, nm, (sz.sm hn).1, (sz.sm hn).2, (sz'.sm hn').1, (sz'.sm hn').2, l.ne, l'.ne, fun q H' nq s rq => k q H' nq s ⟨_, _, rq, Low.of (Int.mul_ne_zero l.ne l'.ne), by rw [vq_low (Int.mul_ne_zero l.ne l'.ne), vq_add l.ne l'.ne, ev, ev'], (sz.add sz').low (Int.mul_ne_zero l.ne l'.ne)⟩⟩
theorem okv_sub (T : Txt K mg) : FnOk P w K mg base CX0 5 T.f_Ratio_sub T.d_Ratio_sub ["self", "other"] (spSubV T.f_Ratio) := (ok_sub T).imp fun vs H Q E ⟨p, y, x, x', n, n', e, ⟨t, b, r, l, ev, sz⟩, ⟨t', b', nm, l', ev', sz'⟩, hn, hn', k⟩ =>
  ⟨p, y, t, b, t', b', e, r, nm, (sz.sm hn).1, (sz.sm hn).2, (sz'.sm hn').1, (sz'.sm hn').2, l.ne, l', fun q H' nq s rq => k q H' nq s ⟨_, _, rq, Low.of (Int.mul_ne_zero l.ne l'.ne), by rw [vq_low (Int.mul_ne_zero l.ne l'.ne), vq_add l.ne l'.ne, vq_neg, ev, ev']; grind, (sz.add sz'.neg).low (Int.mul_ne_zero l.ne l'.ne)⟩⟩
theorem okv_over (T : Txt K mg) : FnOk P w K mg base CX0 4 T.f_Ratio_over T.d_Ratio_over ["self", "value"] (spOverV T.f_Ratio) := (ok_over T).imp fun vs H Q E ⟨p, y, x, x', n, n', e, ⟨t, b, r, l, ev, sz⟩, ⟨t', b', nm, l', ev', sz'⟩, hn, hn', h0, k⟩ => by
  have ht : t' ≠ 0 := fun z => h0 (by rw [← ev']; exact (vq_zero l'.ne).mpr z)
  exact ⟨p, y, t, b, t', b', e, r, nm, (sz.sm hn).1, (sz.sm hn).2, (sz'.sm hn').1, (sz'.sm hn').2, l.ne, ht, fun q H' nq s rq => k q H' nq s ⟨_, _, rq, Low.of (Int.mul_ne_zero l.ne ht), by rw [vq_low (Int.mul_ne_zero l.ne ht), vq_over l.ne l'.ne ht, ev, ev'], (sz.over sz').low (Int.mul_ne_zero l.ne ht)⟩⟩
theorem okv_below (T : Txt K mg) : FnOk P w K mg base CX0 4 T.f_Ratio_below T.d_Ratio_below ["self", "value"] (spBelowV T.f_Ratio) := (ok_below T).imp fun vs H Q E ⟨p, y, x, x', n, n', e, ⟨t, b, r, l, ev, sz⟩, ⟨t', b', nm, l', ev', sz'⟩, hn, hn', k⟩ =>
  ⟨p, y, t, b, t', b', e, r, nm, (sz.sm hn).1, (sz.sm hn).2, (sz'.sm hn').1, (sz'.sm hn').2, fun H' s => by
    have := k H' s
    rw [← ev, ← ev'] at this
    rw [decide_eq_decide.mpr (vq_lt l.1 l'.1)]
    exact this⟩
theorem okv_as (T : Txt K mg) : FnOk P w K mg base CX0 3 T.f_as_ratio T.d_as_ratio ["value"] (spAsV T.f_Ratio) := (ok_asN T).imp fun vs H Q E ⟨v, x, n, e, ⟨t, b, nm, l, ev, sz⟩, k⟩ =>
  ⟨v, t, b, e, nm, fun p H' s r => k p H' s ⟨t, b, r, l, ev, sz⟩⟩
theorem okv_eq (T : Txt K mg) : FnOk P w K mg base CX0 1 T.f_Ratio_eq T.d_Ratio_eq ["self", "other"] (spEqV T.f_Ratio) := (ok_eqB T).imp fun vs H Q E ⟨p, q, x, y, n, m, e, ⟨t, b, r, l, ev, sz⟩, ⟨t', b', r', l', ev', sz'⟩, k⟩ =>
  ⟨p, q, t, b, t', b', e, r, r', by
    have hd : decide (t = t' ∧ b = b') = decide (x = y) := decide_eq_decide.mpr ⟨fun ⟨h1, h2⟩ => by rw [← ev, ← ev', h1, h2], fun h => low_unique l l' (by rw [ev, ev', h])⟩
    rw [hd]
    exact k⟩
/-! the law's pairs -/
def spPlusV : Sp := fun vs H Q _ => ∃ (q q' : Addr) (x x' : Rat) (n n' : Nat), vs = [.ref q, .ref q'] ∧ PV H q x n ∧ PV H q' x' n' ∧ n ≤ 3900 ∧ n' ≤ 3900 ∧ ResPV H (x + x') (n + n' + 1) Q
def spTimesV : Sp := fun vs H Q _ => ∃ (q q' : Addr) (x x' : Rat) (n n' : Nat), vs = [.ref q, .ref q'] ∧ PV H q x n ∧ PV H q' x' n' ∧ n ≤ 3900 ∧ n' ≤ 3900 ∧ ResPV H (x * x') (n + n') Q
def spMinusV : Sp := fun vs H Q _ => ∃ (q q' : Addr) (x x' : Rat) (n n' : Nat), vs = [.ref q, .ref q'] ∧ PV H q x n ∧ PV H q' x' n' ∧ n ≤ 3900 ∧ n' ≤ 3900 ∧ ResPV H (x - x') (n + n' + 1) Q
def spLessV : Sp := fun vs H Q _ => ∃ (q q' : Addr) (x x' : Rat) (n n' : Nat), vs = [.ref q, .ref q'] ∧ PV H q x n ∧ PV H q' x' n' ∧ n ≤ 3900 ∧ n' ≤ 3900 ∧ Q (.bl (decide (x < x'))) H
def spLowV : Sp := fun vs H Q _ => ∃ (t b : Int) (n : Nat), vs = [.int t, .int b] ∧ b ≠ 0 ∧ Sz n t b ∧ n ≤ 7900 ∧ ResPV H (vq t b) n Q
def spIsV (C : Addr) : Sp := fun vs H Q _ => ∃ (p q : Addr) (x : Rat) (n m : Nat), vs = [.ref p, .ref q] ∧ RV C H p x n ∧ PV H q x m ∧ ∀ H', Same H H' → Q (.bl true) H'
theorem okv_plus (T : Txt K mg) : FnOk P w K mg base CX0 2 T.f_plus T.d_plus ["_law_one", "_law_two"] spPlusV := (ok_plus T).imp fun vs H Q E ⟨p, y, x, x', n, n', e, ⟨t, b, r, l, ev, sz⟩, ⟨t', b', nm, l', ev', sz'⟩, hn, hn', k⟩ =>
  ⟨p, y, t, b, t', b', e, r, nm, (sz.sm hn).1, (sz.sm hn).2, (sz'.sm hn').1, (sz'.sm hn').2, l.ne, l'.ne, fun q H' nq s rq => k q H' nq s ⟨_, _, rq, Low.of (Int.mul_ne_zero l.ne l'.ne), by rw [vq_low (Int.mul_ne_zero l.ne l'.ne), vq_add l.ne l'.ne, ev, ev'], (sz.add sz').low (Int.mul_ne_zero l.ne l'.ne)⟩⟩
theorem okv_times (T : Txt K mg) : FnOk P w K mg base CX0 2 T.f_times T.d_times ["_law_one", "_law_two"] spTimesV := (ok_times T).imp fun vs H Q E ⟨p, y, x, x', n, n', e, ⟨t, b, r, l, ev, sz⟩, ⟨t', b', nm, l', ev', sz'⟩, hn, hn', k⟩ =>
  ⟨p, y, t, b, t', b', e, r, nm, (sz.sm hn).1, (sz.sm hn).2, (sz'.sm hn').1, (sz'.sm hn').2, l.ne, l'.ne, fun q H' nq s rq => k q H' nq s ⟨_, _, rq, Low.of (Int.mul_ne_zero l.ne l'.ne), by rw [vq_low (Int.mul_ne_zero l.ne l'.ne), vq_mul l.ne l'.ne, ev, ev'], (sz.mul sz').low (Int.mul_ne_zero l.ne l'.ne)⟩⟩
theorem okv_minus (T : Txt K mg) : FnOk P w K mg base CX0 3 T.f_minus T.d_minus ["_law_one", "_law_two"] spMinusV := (ok_minus T).imp fun vs H Q E ⟨p, y, x, x', n, n', e, ⟨t, b, r, l, ev, sz⟩, ⟨t', b', nm, l', ev', sz'⟩, hn, hn', k⟩ =>
  ⟨p, y, t, b, t', b', e, r, nm, (sz.sm hn).1, (sz.sm hn).2, (sz'.sm hn').1, (sz'.sm hn').2, l.ne, l'.ne, fun q H' nq s rq => k q H' nq s ⟨_, _, rq, Low.of (Int.mul_ne_zero l.ne l'.ne), by rw [vq_low (Int.mul_ne_zero l.ne l'.ne), vq_add l.ne l'.ne, vq_neg, ev, ev']; grind, (sz.add sz'.neg).low (Int.mul_ne_zero l.ne l'.ne)⟩⟩
theorem okv_less (T : Txt K mg) : FnOk P w K mg base CX0 1 T.f_less T.d_less ["_law_one", "_law_two"] spLessV := (ok_less T).imp fun vs H Q E ⟨p, y, x, x', n, n', e, ⟨t, b, r, l, ev, sz⟩, ⟨t', b', nm, l', ev', sz'⟩, hn, hn', k⟩ =>
  ⟨p, y, t, b, t', b', e, r, nm, (sz.sm hn).1, (sz.sm hn).2, (sz'.sm hn').1, (sz'.sm hn').2, by
    rw [← ev, ← ev'] at k
    rw [decide_eq_decide.mpr (vq_lt l.1 l'.1)]
    exact k⟩
theorem okv_low (T : Txt K mg) : FnOk P w K mg base CX0 1 T.f_low T.d_low ["_law_up", "_law_down"] spLowV := (ok_low T).imp fun vs H Q E ⟨t, b, n, e, hb, sz, hn, k⟩ =>
  ⟨t, b, e, hb, Nat.lt_of_lt_of_le sz.2 (Nat.pow_le_pow_right (by decide) (by omega)), fun p H' np s hp => k p H' np s ⟨_, _, hp, Low.of hb, vq_low hb, sz.low hb⟩⟩
end

/-! ### piecewise straight lines -/
structure Seg where
  x : Rat
  t : Rat
  r : Rat
def Seg.at (s : Seg) (z : Rat) : Rat := s.t + s.r * (z - s.x)
/-- the time at z -/
def ev : List Seg → Rat → Rat
  | [], _ => 0
  | [s], z => s.at z
  | s :: u :: rest, z => if z < u.x then s.at z else ev (u :: rest) z
/-- each corner with the rise behind it -/
def segs : List (Rat × Rat) → Rat → List Seg
  | [], _ => []
  | [c], s => [⟨c.1, c.2, s⟩]
  | c :: d :: rest, s => ⟨c.1, c.2, (d.2 - c.2) / (d.1 - c.1)⟩ :: segs (d :: rest) s
def keep : Rat → List Seg → List Seg
  | _, [] => []
  | p, s :: r => if s.r = p then keep s.r r else s :: keep s.r r
def bends : List Seg → List Seg
  | [] => []
  | s :: r => s :: keep s.r r
/-- the corners rise from left to right, the pieces meet -/
def Chn : List Seg → Prop
  | [] => True
  | [_] => True
  | s :: u :: rest => s.x < u.x ∧ u.t = s.at u.x ∧ Chn (u :: rest)
theorem at_same {s u : Seg} (h : u.t = s.at u.x) (e : u.r = s.r) (z : Rat) : u.at z = s.at z := by
  unfold Seg.at at *
  rw [h, e]
  grind
theorem ev_low {s : Seg} {l : List Seg} {z : Rat} (h : Chn (s :: l)) (hz : z < s.x) : ev (s :: l) z = s.at z := by
  cases l with
  | nil => rfl
  | cons u r =>
    show (if z < u.x then s.at z else ev (u :: r) z) = s.at z
    rw [if_pos (by have := h.1; grind)]
theorem ev_keep : ∀ (r : List Seg) (s : Seg), Chn (s :: r) → ∀ z, ev (s :: keep s.r r) z = ev (s :: r) z
  | [], _, _, _ => rfl
  | u :: r, s, h, z => by
    have ih := ev_keep r u h.2.2 z
    by_cases e : u.r = s.r
    · have hk : keep s.r (u :: r) = keep u.r r := by
        show (if u.r = s.r then keep u.r r else u :: keep u.r r) = _
        rw [if_pos e]
      rw [hk]
      have same := at_same h.2.1 e z
      have step : ev (s :: keep u.r r) z = ev (u :: keep u.r r) z := by
        cases keep u.r r with
        | nil => exact same.symm
        | cons v k =>
          show (if z < v.x then s.at z else ev (v :: k) z) = (if z < v.x then u.at z else ev (v :: k) z)
          rw [same]
      rw [step, ih]
      show _ = (if z < u.x then s.at z else ev (u :: r) z)
      by_cases hz : z < u.x
      · rw [if_pos hz, ev_low h.2.2 hz, same]
      · rw [if_neg hz]
    · have hk : keep s.r (u :: r) = u :: keep u.r r := by
        show (if u.r = s.r then keep u.r r else u :: keep u.r r) = _
        rw [if_neg e]
      rw [hk]
      show (if z < u.x then s.at z else ev (u :: keep u.r r) z) = (if z < u.x then s.at z else ev (u :: r) z)
      rw [ih]
theorem ev_bends {l : List Seg} (h : Chn l) (z : Rat) : ev (bends l) z = ev l z := by
  cases l with
  | nil => rfl
  | cons s r => exact ev_keep r s h z
/-- loads rise -/
def Srt (l : List Seg) : Prop := l.Pairwise fun a b => a.x < b.x
theorem chn_lt : ∀ (r : List Seg) (s : Seg), Chn (s :: r) → ∀ u ∈ r, s.x < u.x
  | [], _, _, u, h => by cases h
  | v :: r, s, h, u, hu => by
    rcases List.mem_cons.mp hu with hu | hu
    · rw [hu]; exact h.1
    · have := chn_lt r v h.2.2 u hu
      have := h.1
      grind
theorem chn_srt : ∀ (l : List Seg), Chn l → Srt l
  | [], _ => .nil
  | [s], _ => .cons (fun _ h => by cases h) .nil
  | s :: u :: r, h => .cons (chn_lt _ _ h) (chn_srt (u :: r) h.2.2)
theorem keep_sub : ∀ (l : List Seg) (p : Rat), (keep p l).Sublist l
  | [], _ => .slnil
  | s :: r, p => by
    show (if s.r = p then keep s.r r else s :: keep s.r r).Sublist (s :: r)
    split
    · exact (keep_sub r _).cons _
    · exact (keep_sub r _).cons_cons _
theorem bends_sub (l : List Seg) : (bends l).Sublist l := by
  cases l with
  | nil => exact .slnil
  | cons s r => exact (keep_sub r _).cons_cons _
theorem bends_srt {l : List Seg} (h : Srt l) : Srt (bends l) := List.Pairwise.sublist (bends_sub l) h
theorem bends_head {s : Seg} {r : List Seg} : ∃ k, bends (s :: r) = s :: k := ⟨_, rfl⟩
/-- the piece at z -/
theorem ev_at : ∀ (l : List Seg), Srt l → ∀ (z : Rat) (c : Nat), c < l.length → (∀ i s, l[i]? = some s → i ≤ c → s.x ≤ z) → (∀ i s, l[i]? = some s → c < i → z < s.x) → ∃ s, l[c]? = some s ∧ ev l z = s.at z
  | [], _, _, c, hc, _, _ => by simp at hc
  | [s], _, z, c, hc, _, _ => by
    have : c = 0 := by simp at hc; omega
    subst this
    exact ⟨s, rfl, rfl⟩
  | s :: u :: r, h, z, 0, hc, h1, h2 => by
    refine ⟨s, rfl, ?_⟩
    show (if z < u.x then s.at z else ev (u :: r) z) = s.at z
    rw [if_pos (h2 1 u rfl (by decide))]
  | s :: u :: r, h, z, c + 1, hc, h1, h2 => by
    obtain ⟨v, hv, e⟩ := ev_at (u :: r) (List.Pairwise.of_cons h) z c (by simpa using hc) (fun i s' hs hi => h1 (i + 1) s' hs (by omega)) (fun i s' hs hi => h2 (i + 1) s' hs (by omega))
    refine ⟨v, hv, ?_⟩
    show (if z < u.x then s.at z else ev (u :: r) z) = v.at z
    rw [if_neg (by have := h1 1 u rfl (by omega); grind)]
    exact e
theorem segs_len : ∀ (cs : List (Rat × Rat)) (s : Rat), (segs cs s).length = cs.length
  | [], _ => rfl
  | [_], _ => rfl
  | c :: d :: r, s => by show (segs (d :: r) s).length + 1 = _; rw [segs_len (d :: r) s]; rfl
theorem segs_x : ∀ (cs : List (Rat × Rat)) (s : Rat), (segs cs s).map Seg.x = cs.map (·.1)
  | [], _ => rfl
  | [_], _ => rfl
  | c :: d :: r, s => by show c.1 :: (segs (d :: r) s).map Seg.x = _; rw [segs_x (d :: r) s]; rfl
theorem segs_t : ∀ (cs : List (Rat × Rat)) (s : Rat), (segs cs s).map Seg.t = cs.map (·.2)
  | [], _ => rfl
  | [_], _ => rfl
  | c :: d :: r, s => by show c.2 :: (segs (d :: r) s).map Seg.t = _; rw [segs_t (d :: r) s]; rfl
/-- the loads of the corners rise, the times don't fall -/
def Cor (cs : List (Rat × Rat)) : Prop := cs ≠ [] ∧ (∀ c, cs[0]? = some c → c.1 = 0 ∧ 0 ≤ c.2) ∧ ∀ i c d, cs[i]? = some c → cs[i + 1]? = some d → c.1 < d.1 ∧ c.2 ≤ d.2
def Up (cs : List (Rat × Rat)) : Prop := ∀ i c d, cs[i]? = some c → cs[i + 1]? = some d → c.1 < d.1 ∧ c.2 ≤ d.2
theorem segs_chn : ∀ (cs : List (Rat × Rat)) (s : Rat), Up cs → Chn (segs cs s)
  | [], _, _ => trivial
  | [_], _, _ => trivial
  | [c, d], s, h => by
    have h1 := (h 0 c d rfl rfl).1
    refine ⟨h1, ?_, trivial⟩
    show d.2 = c.2 + (d.2 - c.2) / (d.1 - c.1) * (d.1 - c.1)
    have : d.1 - c.1 ≠ 0 := by grind
    grind
  | c :: d :: e :: r, s, h => by
    have ih := segs_chn (d :: e :: r) s fun i a b h1 h2 => h (i + 1) a b h1 h2
    have h1 := (h 0 c d rfl rfl).1
    refine ⟨h1, ?_, ih⟩
    show d.2 = c.2 + (d.2 - c.2) / (d.1 - c.1) * (d.1 - c.1)
    have : d.1 - c.1 ≠ 0 := by grind
    grind
/-- the rise at a place -/
theorem segs_r : ∀ (cs : List (Rat × Rat)) (s : Rat) (i : Nat) (c d : Rat × Rat), cs[i]? = some c → cs[i + 1]? = some d → ((segs cs s)[i]?).map Seg.r = some ((d.2 - c.2) / (d.1 - c.1))
  | [], _, _, _, _, h, _ => by simp at h
  | [_], _, i, _, _, _, h => by simp at h
  | a :: b :: r, s, 0, c, d, h1, h2 => by
    have e1 : a = c := Option.some.inj h1
    have e2 : b = d := Option.some.inj h2
    rw [e1, e2]
    rfl
  | a :: b :: r, s, i + 1, c, d, h1, h2 => segs_r (b :: r) s i c d h1 h2
theorem segs_last : ∀ (cs : List (Rat × Rat)) (s : Rat) (i : Nat), i + 1 = cs.length → ((segs cs s)[i]?).map Seg.r = some s
  | [], _, _, h => by simp at h
  | [c], s, i, h => by
    have : i = 0 := by simpa using h
    subst this
    rfl
  | a :: b :: r, s, 0, h => by simp at h
  | a :: b :: r, s, i + 1, h => segs_last (b :: r) s i (by simpa using h)
theorem keep_snoc : ∀ (l : List Seg) (p : Rat) (u : Seg), keep p (l ++ [u]) = keep p l ++ if u.r = (((l.map Seg.r).getLast?).getD p) then [] else [u]
  | [], p, u => by
    show (if u.r = p then keep u.r [] else u :: keep u.r []) = [] ++ if u.r = p then [] else [u]
    split <;> rfl
  | s :: r, p, u => by
    have ih := keep_snoc r s.r u
    have e : (((s :: r).map Seg.r).getLast?).getD p = ((r.map Seg.r).getLast?).getD s.r := by
      cases r with
      | nil => rfl
      | cons a b => simp [List.getLast?_cons]
    rw [e]
    show (if s.r = p then keep s.r (r ++ [u]) else s :: keep s.r (r ++ [u])) = (if s.r = p then keep s.r r else s :: keep s.r r) ++ _
    rw [ih]
    split
    · rfl
    · rfl
theorem bends_snoc {l : List Seg} {u v : Seg} (hl : l.getLast? = some v) : bends (l ++ [u]) = bends l ++ if u.r = v.r then [] else [u] := by
  cases l with
  | nil => cases hl
  | cons s r =>
    show s :: keep s.r (r ++ [u]) = s :: keep s.r r ++ _
    rw [keep_snoc]
    have e : ((r.map Seg.r).getLast?).getD s.r = v.r := by
      cases r with
      | nil =>
        have : s = v := Option.some.inj hl
        rw [this]
        rfl
      | cons a b =>
        rw [List.getLast?_cons_cons] at hl
        rw [List.getLast?_map, hl]
        rfl
    rw [e]
    rfl

/-! ### rows of ratios -/
section
variable {P : Program} {w : World} {K : PySem.W.Frag} {mg : Str → Option Value} {base : Heap}
/-- these ratios stand at these places -/
def RVs (C : Addr) (H : Hp) (ps : List Addr) (xs : List Rat) (n : Nat) : Prop := ps.length = xs.length ∧ ∀ (i : Nat) p x, ps[i]? = some p → xs[i]? = some x → RV C H p x n
theorem RVs.on {C : Addr} {H H' : Hp} {ps : List Addr} {xs : List Rat} {n : Nat} (r : RVs C H ps xs n) (s : Same H H') : RVs C H' ps xs n := ⟨r.1, fun i p x h1 h2 => (r.2 i p x h1 h2).on s⟩
theorem RVs.mono {C : Addr} {H : Hp} {ps : List Addr} {xs : List Rat} {n m : Nat} (r : RVs C H ps xs n) (h : n ≤ m) : RVs C H ps xs m := ⟨r.1, fun i p x h1 h2 => (r.2 i p x h1 h2).mono h⟩
theorem RVs.nil {C : Addr} {H : Hp} {n : Nat} : RVs C H [] [] n := ⟨rfl, fun i p x h => by simp at h⟩
theorem RVs.snoc {C : Addr} {H : Hp} {ps : List Addr} {xs : List Rat} {n : Nat} {p : Addr} {x : Rat} (r : RVs C H ps xs n) (h : RV C H p x n) : RVs C H (ps ++ [p]) (xs ++ [x]) n := by
  refine ⟨by rw [List.length_append, List.length_append, r.1]; rfl, fun i q y h1 h2 => ?_⟩
  by_cases hi : i < ps.length
  · rw [List.getElem?_append_left hi] at h1
    rw [List.getElem?_append_left (by rw [← r.1]; exact hi)] at h2
    exact r.2 i q y h1 h2
  · have hi' : i < (ps ++ [p]).length := (List.getElem?_eq_some_iff.mp h1).1
    rw [List.length_append, List.length_singleton] at hi'
    have e : i = ps.length := by omega
    subst e
    rw [List.getElem?_append_right (Nat.le_refl _), Nat.sub_self] at h1
    rw [List.getElem?_append_right (by rw [r.1]; exact Nat.le_refl _), r.1, Nat.sub_self] at h2
    have e1 : p = q := Option.some.inj h1
    have e2 : x = y := Option.some.inj h2
    rw [← e1, ← e2]
    exact h
theorem RVs.get {C : Addr} {H : Hp} {ps : List Addr} {xs : List Rat} {n : Nat} (r : RVs C H ps xs n) {i : Nat} (hi : i < xs.length) : ∃ p, atI (ps.map V.ref) (i : Int) = some (.ref p) ∧ ps[i]? = some p ∧ RV C H p xs[i] n := by
  have hp : i < ps.length := by rw [r.1]; exact hi
  exact ⟨ps[i], atI_nat (by rw [List.getElem?_map, List.getElem?_eq_getElem hp]; rfl), List.getElem?_eq_getElem hp, r.2 i _ _ (List.getElem?_eq_getElem hp) (List.getElem?_eq_getElem hi)⟩
theorem RVs.at {C : Addr} {H : Hp} {ps : List Addr} {xs : List Rat} {n : Nat} (r : RVs C H ps xs n) {i : Nat} {x : Rat} (hx : xs[i]? = some x) : ∃ p, atI (ps.map V.ref) (i : Int) = some (.ref p) ∧ ps[i]? = some p ∧ RV C H p x n := by
  obtain ⟨hi, e⟩ := List.getElem?_eq_some_iff.mp hx
  obtain ⟨p, h1, h2, h3⟩ := r.get hi
  exact ⟨p, h1, h2, by rw [← e]; exact h3⟩
theorem pw_lt {xs : List Rat} (h : xs.Pairwise (· < ·)) {i j : Nat} {x y : Rat} (hx : xs[i]? = some x) (hy : xs[j]? = some y) (hij : i < j) : x < y := by
  obtain ⟨hi, e1⟩ := List.getElem?_eq_some_iff.mp hx
  obtain ⟨hj, e2⟩ := List.getElem?_eq_some_iff.mp hy
  rw [← e1, ← e2]
  exact List.pairwise_iff_getElem.mp h i j hi hj hij
end

/-! ### lines -/
section
variable {P : Program} {w : World} {K : PySem.W.Frag} {mg : Str → Option Value} {base : Heap}
def lf (a b c : Addr) : List (Str × V) := [("_loads", .ref a), ("_times", .ref b), ("_rises", .ref c)]
theorem nLT : (("_times" : Str) == ("_loads" : Str)) = false := by decide +kernel
theorem nLR : (("_rises" : Str) == ("_loads" : Str)) = false := by decide +kernel
theorem nTR : (("_rises" : Str) == ("_times" : Str)) = false := by decide +kernel
theorem lf_loads (a b c : Addr) : (lf a b c).lookup ("_loads" : Str) = some (.ref a) := by simp [lf, List.lookup]
theorem lf_times (a b c : Addr) : (lf a b c).lookup ("_times" : Str) = some (.ref b) := by simp [lf, List.lookup, nLT]
theorem lf_rises (a b c : Addr) : (lf a b c).lookup ("_rises" : Str) = some (.ref c) := by simp [lf, List.lookup, nLR, nTR]
/-- a line's three rows -/
structure Rows (RC : Addr) (H : Hp) (a b c : Addr) (l : List Seg) (n : Nat) : Prop where
  ls : ∃ ps : List Addr, H a = some (.tup (ps.map V.ref)) ∧ RVs RC H ps (l.map Seg.x) n
  ts : ∃ ps : List Addr, H b = some (.tup (ps.map V.ref)) ∧ RVs RC H ps (l.map Seg.t) n
  rs : ∃ ps : List Addr, H c = some (.tup (ps.map V.ref)) ∧ RVs RC H ps (l.map Seg.r) n
def LineAt (LC RC : Addr) (H : Hp) (p : Addr) (l : List Seg) (n : Nat) : Prop := ∃ dx a b c, H p = some (.ins LC dx (lf a b c)) ∧ Rows RC H a b c l n
theorem Rows.on {RC : Addr} {H H' : Hp} {a b c : Addr} {l : List Seg} {n : Nat} (r : Rows RC H a b c l n) (s : Same H H') : Rows RC H' a b c l n :=
  ⟨let ⟨ps, h1, h2⟩ := r.ls; ⟨ps, s _ _ h1, h2.on s⟩, let ⟨ps, h1, h2⟩ := r.ts; ⟨ps, s _ _ h1, h2.on s⟩, let ⟨ps, h1, h2⟩ := r.rs; ⟨ps, s _ _ h1, h2.on s⟩⟩
theorem LineAt.on {LC RC : Addr} {H H' : Hp} {p : Addr} {l : List Seg} {n : Nat} (r : LineAt LC RC H p l n) (s : Same H H') : LineAt LC RC H' p l n := let ⟨dx, a, b, c, h1, h2⟩ := r; ⟨dx, a, b, c, s _ _ h1, h2.on s⟩
/-- what a line keeps -/
structure Gd (l : List Seg) : Prop where
  ne : l ≠ []
  h0 : ∀ s, l[0]? = some s → s.x = 0
  srt : Srt l
  few : l.length ≤ 1000
theorem Gd.pw {l : List Seg} (g : Gd l) : (l.map Seg.x).Pairwise (· < ·) := List.pairwise_map.mpr g.srt
/-! the corners that are passed -/
def CorAt (K : PySem.W.Frag) (RC : Addr) (H : Hp) (c : Addr) (cs : List (Rat × Rat)) (n : Nat) : Prop := ∃ ts : List Addr, SqL K H c (ts.map V.ref) ∧ ts.length = cs.length ∧ ∀ (i : Nat) t d, ts[i]? = some t → cs[i]? = some d → ∃ u v, H t = some (.tup [u, v]) ∧ NV RC H u d.1 n ∧ NV RC H v d.2 n
theorem CorAt.on {RC : Addr} {H H' : Hp} {c : Addr} {cs : List (Rat × Rat)} {n : Nat} (r : CorAt K RC H c cs n) (s : Same H H') : CorAt K RC H' c cs n := by
  obtain ⟨ts, h1, h2, h3⟩ := r
  refine ⟨ts, s.seq h1, h2, fun i t d ht hd => ?_⟩
  obtain ⟨u, v, e, a, b⟩ := h3 i t d ht hd
  exact ⟨u, v, s _ _ e, a.on s, b.on s⟩
theorem sign_zero {t b : Int} (l : Low t b) (h : vq t b = 0) : sgnI t = 0 := by
  have := (vq_zero l.ne).mp h
  rw [this]
  rfl
end

/-! ### the errors' own constructors -/
section
variable {P : Program} {w : World} {K : PySem.W.Frag} {mg : Str → Option Value} {base : Heap}
def spErr (nm : Str) (C : Addr) : Sp := fun vs H Q _ => ∃ (a : Addr) (v : V), vs = [.ref a, v] ∧ H a = some (exo a C none) ∧ ∀ dx H', H dx = none → dx ≠ a → H' = upd (upd H dx (exd dx [(nm, v)])) a (exo a C (some dx)) → Q .non H'
theorem ok_eBadCount (T : Txt K mg) : FnOk P w K mg base CX0 1 T.f_BadCount_init T.d_BadCount_init ["self", "count"] (spErr "count" T.f_BadCount) := by
  refine T.F_BadCount_init.ok sc_BadCount_init (fun vs H Q E h => ?_) (fun cdv A outer s H vs Q E hr h => ?_)
  · obtain ⟨a, v, rfl, _⟩ := h
    rfl
  · obtain ⟨a, v, rfl, ha, k⟩ := h
    refine ⟨_, (pss_one (ps_ost (pv 0) (pv 1))), ?_⟩
    exact ⟨_, rfl, _, rfl, a, T.f_BadCount, rfl, T.ox_BadCount, T.no_BadCount_count, .inl ⟨ha, fun dx nd ne => k dx _ nd ne rfl⟩⟩
/-- an exception's own dict, new -/
def Raised (H : Hp) (nm : Str) (v : V) (D : Addr) (E : XK) : Prop := ∀ d H', H d = none → Same H H' → H' d = some (.xd [(nm, v)]) → E (.ref D) (some d) H'
theorem Raised.on {H H2 : Hp} {nm : Str} {v : V} {D : Addr} {E : XK} (r : Raised H nm v D E) (s : Same H H2) : Raised H2 nm v D E := fun d H' nd sm e => r d H' (s.free nd) (s.trans sm) e
/-- what a raise asks -/
theorem raise_asks {H : Hp} {nm : Str} {v : V} {D a : Addr} {E : XK} (na : H a = none) (k : Raised H nm v D E) (d : Addr) (H' : Hp) (nd : (upd H a (exo a D none)) d = none) (ne : d ≠ a) (e : H' = upd (upd (upd H a (exo a D none)) d (exd d [(nm, v)])) a (exo a D (some d))) :
    H' a = some (exo a D (some d)) ∧ H' d = some (exd d [(nm, v)]) ∧ H d = none ∧ E (.ref D) (some d) (upd (del H' a) d (.xd [(nm, v)])) := by
  have nd' : H d = none := by rw [upd_ne ne] at nd; exact nd
  refine ⟨by rw [e]; exact upd_same, by rw [e, upd_ne ne]; exact upd_same, nd', k d _ nd' (fun b o hb => ?_) upd_same⟩
  have n1 : b ≠ d := ne_of_none hb nd'
  have n2 : b ≠ a := ne_of_none hb na
  rw [upd_ne n1, del_ne n2, e, upd_ne n2, upd_ne n1, upd_ne n2]
  exact hb
/-- of the raising reading the calm one -/
theorem calm_of {k : Nat} {f : Addr} {fd : FuncData} {ps : List Str} {sp : Sp} (F : FnOk P w K mg base (L2.CX P w) k f fd ps sp) : FnOk P w K mg base CX0 k f fd ps (fun vs H Q _ => sp vs H Q E0) := by
  refine ⟨fun vs H Q E q => F.len vs H Q E0 q, fun A outer s H args us vs Q E hr he hb hv hs => codeAny_mono (F.run A outer s H args us vs Q E0 hr he hb hv hs) fun r s' q => ?_⟩
  cases r with
  | ok fl => cases fl <;> exact q
  | error e =>
    obtain ⟨_, _, _, _, _, _, _, _, _, _, _, _, z⟩ := q
    exact z.elim
end

section
variable {P : Program} {w : World} {K : PySem.W.Frag} {mg : Str → Option Value} {base : Heap}
/-- OutOfRange's own __init__ -/
def spOor (C : Addr) : Sp := fun vs H Q _ => ∃ (a : Addr) (v : V), vs = [.ref a, v] ∧ H a = some (exo a C none) ∧ ∀ dx H', H dx = none → dx ≠ a → H' = upd (upd H dx (exd dx [("value", v)])) a (exo a C (some dx)) → Q .non H'
theorem ok_oor (T : Txt K mg) : FnOk P w K mg base CX0 1 T.f_OutOfRange_init T.d_OutOfRange_init ["self", "value"] (spOor T.f_OutOfRange) := by
  refine T.F_OutOfRange_init.ok sc_OutOfRange_init (fun vs H Q E h => ?_) (fun cdv A outer s H vs Q E hr h => ?_)
  · obtain ⟨a, v, rfl, _⟩ := h
    rfl
  · obtain ⟨a, v, rfl, ha, k⟩ := h
    refine ⟨_, (pss_one (ps_ost (pv 0) (pv 1))), ?_⟩
    exact ⟨_, rfl, _, rfl, a, T.f_OutOfRange, rfl, T.ox_OutOfRange, T.no_OutOfRange_value, .inl ⟨ha, fun dx nd ne => k dx _ nd ne rfl⟩⟩
end

/-! ### any corners checked -/
section
variable {P : Program} {w : World} {K : PySem.W.Frag} {mg : Str → Option Value} {base : Heap}
/-- corners as a list or a tuple of tuples, with the values that stand in them -/
def CorV (K : PySem.W.Frag) (RC : Addr) (H : Hp) (c : Addr) (uv : List (V × V)) (cs : List (Rat × Rat)) (n : Nat) : Prop := ∃ ts : List Addr, (SqL K H c (ts.map V.ref) ∨ SqT K H c (ts.map V.ref)) ∧ ts.length = cs.length ∧ uv.length = cs.length ∧
  ∀ (i : Nat) t p d, ts[i]? = some t → uv[i]? = some p → cs[i]? = some d → H t = some (.tup [p.1, p.2]) ∧ NV RC H p.1 d.1 n ∧ NV RC H p.2 d.2 n
theorem seq_on {H H' : Hp} {c : Addr} {xs : List V} (h : SqL K H c xs ∨ SqT K H c xs) (s : Same H H') : SqL K H' c xs ∨ SqT K H' c xs := h.imp (fun h => s.seq h) (fun h => sqT_on s h)
theorem CorV.on {RC : Addr} {H H' : Hp} {c : Addr} {uv : List (V × V)} {cs : List (Rat × Rat)} {n : Nat} (r : CorV K RC H c uv cs n) (s : Same H H') : CorV K RC H' c uv cs n := by
  obtain ⟨ts, h1, h2, h3, h4⟩ := r
  refine ⟨ts, seq_on h1 s, h2, h3, fun i t p d ht hp hd => ?_⟩
  obtain ⟨e, a, b⟩ := h4 i t p d ht hp hd
  exact ⟨s _ _ e, a.on s, b.on s⟩
/-- the first i corners rise -/
def UpTo (cs : List (Rat × Rat)) (i : Nat) : Prop := ∀ j c d, j < i → cs[j]? = some c → cs[j + 1]? = some d → c.1 < d.1 ∧ c.2 ≤ d.2
/-- what the check of corners does -/
def CheckDue (D DC : Addr) (uv : List (V × V)) (cs : List (Rat × Rat)) (H : Hp) (Q : Prop) (E : XK) : Prop :=
  (cs = [] → Raised H "count" (.int 0) DC E) ∧ (∀ c p, cs[0]? = some c → uv[0]? = some p → (c.1 ≠ 0 → Raised H "value" p.1 D E) ∧ (c.1 = 0 → c.2 < 0 → Raised H "value" p.2 D E) ∧
    (c.1 = 0 → 0 ≤ c.2 → ∀ i d f q, cs[i]? = some d → cs[i + 1]? = some f → uv[i + 1]? = some q → UpTo cs i → (¬ d.1 < f.1 → Raised H "value" q.1 D E) ∧ (d.1 < f.1 → f.2 < d.2 → Raised H "value" q.2 D E))) ∧ (Cor cs → Q)
def spCheckG (K : PySem.W.Frag) (RC D DC : Addr) : Sp := fun vs H Q E => ∃ (c : Addr) (uv : List (V × V)) (cs : List (Rat × Rat)) (n : Nat), vs = [.ref c] ∧ CorV K RC H c uv cs n ∧ n ≤ 900 ∧ cs.length ≤ 100 ∧ CheckDue D DC uv cs H (∀ H', Same H H' → Q .non H') E
/-- a loop over zip of a tuple and its rest -/
theorem for_zipU {a b : Addr} {xs ys : List V} {g : TG} {tb : TS} {D : Ends} {σ : L2.St} {H : Hp} (hl : ys.length + 1 = xs.length) (Pv : Nat → L2.St → Hp → Prop) (h0 : Pv 0 σ H) (hq : ∀ i σ H, Pv i σ H → SqT K H a xs ∧ SqT K H b ys)
    (hs : ∀ (i : Nat) (x y : V) (T : Addr) (σ : L2.St) (H : Hp), xs[i]? = some x → ys[i]? = some y → Pv i σ H → H T = none → g (.ref T) σ (upd H T (.tup [x, y])) fun σ2 H2 => tb { D with nx := Pv (i + 1), ct := Pv (i + 1), bk := D.nx } σ2 H2) (hd : ∀ σ H, Pv ys.length σ H → D.nx σ H) :
    ∃ W : Nat → Nat → L2.St → Hp → Prop, (∃ m, W 0 m σ H) ∧ ∀ i m σ H, W i m σ H →
      ((RZ.ItzT K a b).stop i H ∧ D.nx σ H) ∨ ((RZ.ItzT K a b).go i H ∧ ∃ N : L2.St → Hp → Prop, (∀ σ' H', N σ' H' → ∃ m', m' < m ∧ W (i + 1) m' σ' H') ∧ ∀ v H', (RZ.ItzT K a b).yld i H v H' → g v σ H' fun σ2 H2 => tb { D with nx := N, ct := N, bk := D.nx } σ2 H2) := by
  refine ⟨fun i m σ H => m = ys.length - i ∧ i ≤ ys.length ∧ Pv i σ H, ⟨_, rfl, Nat.zero_le _, h0⟩, ?_⟩
  rintro i m σ H ⟨rfl, hi, p⟩
  obtain ⟨qx, qy⟩ := hq i σ H p
  rcases Nat.lt_or_ge i ys.length with lt | ge
  · have g1 : ys[i]? = some ys[i] := List.getElem?_eq_getElem lt
    have g2 : xs[i]? = some (xs[i]'(by omega)) := List.getElem?_eq_getElem (by omega)
    refine .inr ⟨⟨xs, ys, _, _, qx, qy, g2, g1⟩, Pv (i + 1), fun σ' H' p' => ⟨ys.length - (i + 1), by omega, rfl, lt, p'⟩, fun v H' y => ?_⟩
    obtain ⟨T, x', y', rfl, hT, rfl, f1, f2⟩ := y
    exact hs i x' y' T σ H (f1 xs qx) (f2 ys qy) p hT
  · obtain rfl : i = ys.length := by omega
    exact .inl ⟨⟨xs, ys, qx, qy, .inr (Nat.le_refl _)⟩, hd σ H p⟩
/-- a loop over zip of a list and its rest -/
theorem for_zipV {a b : Addr} {xs ys : List V} {g : TG} {tb : TS} {D : Ends} {σ : L2.St} {H : Hp} (hl : ys.length + 1 = xs.length) (Pv : Nat → L2.St → Hp → Prop) (h0 : Pv 0 σ H) (hq : ∀ i σ H, Pv i σ H → SqL K H a xs ∧ SqL K H b ys)
    (hs : ∀ (i : Nat) (x y : V) (T : Addr) (σ : L2.St) (H : Hp), xs[i]? = some x → ys[i]? = some y → Pv i σ H → H T = none → g (.ref T) σ (upd H T (.tup [x, y])) fun σ2 H2 => tb { D with nx := Pv (i + 1), ct := Pv (i + 1), bk := D.nx } σ2 H2) (hd : ∀ σ H, Pv ys.length σ H → D.nx σ H) :
    ∃ W : Nat → Nat → L2.St → Hp → Prop, (∃ m, W 0 m σ H) ∧ ∀ i m σ H, W i m σ H →
      ((Itz K a b).stop i H ∧ D.nx σ H) ∨ ((Itz K a b).go i H ∧ ∃ N : L2.St → Hp → Prop, (∀ σ' H', N σ' H' → ∃ m', m' < m ∧ W (i + 1) m' σ' H') ∧ ∀ v H', (Itz K a b).yld i H v H' → g v σ H' fun σ2 H2 => tb { D with nx := N, ct := N, bk := D.nx } σ2 H2) := by
  refine ⟨fun i m σ H => m = ys.length - i ∧ i ≤ ys.length ∧ Pv i σ H, ⟨_, rfl, Nat.zero_le _, h0⟩, ?_⟩
  rintro i m σ H ⟨rfl, hi, p⟩
  obtain ⟨qx, qy⟩ := hq i σ H p
  rcases Nat.lt_or_ge i ys.length with lt | ge
  · have g1 : ys[i]? = some ys[i] := List.getElem?_eq_getElem lt
    have g2 : xs[i]? = some (xs[i]'(by omega)) := List.getElem?_eq_getElem (by omega)
    refine .inr ⟨⟨xs, ys, _, _, qx, qy, g2, g1⟩, Pv (i + 1), fun σ' H' p' => ⟨ys.length - (i + 1), by omega, rfl, lt, p'⟩, fun v H' y => ?_⟩
    obtain ⟨T, x', y', rfl, hT, rfl, f1, f2⟩ := y
    exact hs i x' y' T σ H (f1 xs qx) (f2 ys qy) p hT
  · obtain rfl : i = ys.length := by omega
    exact .inl ⟨⟨xs, ys, qx, qy, .inr (Nat.le_refl _)⟩, hd σ H p⟩
theorem ix_any {H : Hp} {Q : VK} {c : Addr} {xs : List V} {i : Int} {v : V} (h : SqL K H c xs ∨ SqT K H c xs) (ha : atI xs i = some v) (q : Q v H) : rIxL K (.ref c) (.int i) H Q ∨ rIxT K (.ref c) (.int i) H Q := h.imp (fun e => ⟨c, xs, i, v, rfl, rfl, e, ha, q⟩) (fun e => ⟨c, xs, i, v, rfl, rfl, e, ha, q⟩)
theorem sign_ne {t b : Int} (l : Low t b) (h : vq t b ≠ 0) : sgnI t ≠ 0 := by
  have h : t ≠ 0 := fun e => h ((vq_zero l.ne).mpr e)
  unfold sgnI
  grind
theorem ok_checkG (T : Txt K mg) : FnOk P w K mg base (L2.CX P w) 5 T.f_check_corners T.d_check_corners ["corners"] (spCheckG K T.f_Ratio T.f_OutOfRange T.f_BadCount) := by
  have G_Ratio_below : FnOk P w K mg base CX0 4 T.f_Ratio_below T.d_Ratio_below ["self", "value"] (spBelowV T.f_Ratio) := okv_below T
  have G_as_ratio : FnOk P w K mg base CX0 3 T.f_as_ratio T.d_as_ratio ["value"] (spAsV T.f_Ratio) := okv_as T
  have G_Ratio_sign : FnOk P w K mg base CX0 1 T.f_Ratio_sign T.d_Ratio_sign ["self"] (spSign T.f_Ratio) := ok_sign T
  have G_OutOfRange_init : FnOk P w K mg base CX0 1 T.f_OutOfRange_init T.d_OutOfRange_init ["self", "value"] (spOor T.f_OutOfRange) := ok_oor T
  have G_BadCount_init : FnOk P w K mg base CX0 1 T.f_BadCount_init T.d_BadCount_init ["self", "count"] (spErr "count" T.f_BadCount) := ok_eBadCount T
  refine T.F_check_corners.okX sc_check_corners (fun vs H Q E h => ?_) (fun cdv A outer s H vs Q E hr h => ?_)
  · obtain ⟨c, uv, cs, n, rfl, _⟩ := h
    rfl
  · obtain ⟨c, uv, cs, n, rfl, hc, hn, hfew, k0, k1, k2⟩ := h
    refine ⟨_, (pss_cons (ps_if (pt_cmpR op_eq (pe_callB call_len_seq (by rfl) T.n_len (by decide +kernel) (pa_cons (pv 0) pa_nil)) pe_int (nomark _))
      (pss_one (ps_raise rfl (takes_of rfl rfl rfl rfl) (pmk_oex T.ox_BadCount T.ix_BadCount T.tx_BadCount G_BadCount_init (hr.mono (by decide)) T.b_BadCount_init .nil pass0 rfl T.m_BadCount (pa_cons pe_int pa_nil))))
      pss_nil)
    (pss_cons (ps_asg (pe_ix (ix_or ix_list ix_tup) (pv 0) pe_int (fun _ _ => rfl)) (pg_tup rfl (pgs_cons (pg_name (i := 1) sc_check_corners.nd rfl (Or.inl rfl)) (pgs_cons (pg_name (i := 2) sc_check_corners.nd rfl (Or.inl rfl)) pgs_nil))))
    (pss_cons (ps_if (pt_cmpR op_ne (pe_prop (pe_call G_as_ratio (hr.mono (by decide)) rfl T.m_as_ratio T.F_as_ratio.kp T.b_as_ratio .nil pass0 (pa_cons (pv 1) pa_nil)) T.cl_Ratio T.p_Ratio_sign G_Ratio_sign (hr.mono (by decide)) T.b_Ratio_sign .nil pass0 rfl) pe_int (nomark _))
      (pss_one (ps_raise rfl (takes_of rfl rfl rfl rfl) (pmk_oex T.ox_OutOfRange T.ix_OutOfRange T.tx_OutOfRange G_OutOfRange_init (hr.mono (by decide)) T.b_OutOfRange_init .nil pass0 rfl T.m_OutOfRange (pa_cons (pv 1) pa_nil))))
      pss_nil)
    (pss_cons (ps_if (pt_val (pe_meth (pe_call G_as_ratio (hr.mono (by decide)) rfl T.m_as_ratio T.F_as_ratio.kp T.b_as_ratio .nil pass0 (pa_cons (pv 2) pa_nil)) T.cl_Ratio T.me_Ratio_below G_Ratio_below (hr.mono (by decide)) T.b_Ratio_below .nil pass0 (pa_cons pe_int pa_nil)))
      (pss_one (ps_raise rfl (takes_of rfl rfl rfl rfl) (pmk_oex T.ox_OutOfRange T.ix_OutOfRange T.tx_OutOfRange G_OutOfRange_init (hr.mono (by decide)) T.b_OutOfRange_init .nil pass0 rfl T.m_OutOfRange (pa_cons (pv 2) pa_nil))))
      pss_nil)
    (pss_one (ps_for (passes_of rfl) rfl (RZ.pi_zipA (by rfl) T.n_zip (pa_cons (pv 0) (pa_cons (pe_slice (sl_list.or sl_tupA) (pv 0) (po_some pe_int) po_none) pa_nil))) (pg_tup rfl (pgs_cons (pg_name (i := 3) sc_check_corners.nd rfl (Or.inl rfl)) (pgs_cons (pg_name (i := 4) sc_check_corners.nd rfl (Or.inl rfl)) pgs_nil)))
      (pss_cons (ps_if (pt_not (pt_val (pe_meth (pe_call G_as_ratio (hr.mono (by decide)) rfl T.m_as_ratio T.F_as_ratio.kp T.b_as_ratio .nil pass0 (pa_cons (pe_ix ix_tup (pv 3) pe_int (fun _ _ => rfl)) pa_nil)) T.cl_Ratio T.me_Ratio_below G_Ratio_below (hr.mono (by decide)) T.b_Ratio_below .nil pass0 (pa_cons (pe_ix ix_tup (pv 4) pe_int (fun _ _ => rfl)) pa_nil))))
      (pss_one (ps_raise rfl (takes_of rfl rfl rfl rfl) (pmk_oex T.ox_OutOfRange T.ix_OutOfRange T.tx_OutOfRange G_OutOfRange_init (hr.mono (by decide)) T.b_OutOfRange_init .nil pass0 rfl T.m_OutOfRange (pa_cons (pe_ix ix_tup (pv 4) pe_int (fun _ _ => rfl)) pa_nil))))
      pss_nil)
    (pss_one (ps_if (pt_val (pe_meth (pe_call G_as_ratio (hr.mono (by decide)) rfl T.m_as_ratio T.F_as_ratio.kp T.b_as_ratio .nil pass0 (pa_cons (pe_ix ix_tup (pv 4) pe_int (fun _ _ => rfl)) pa_nil)) T.cl_Ratio T.me_Ratio_below G_Ratio_below (hr.mono (by decide)) T.b_Ratio_below .nil pass0 (pa_cons (pe_ix ix_tup (pv 3) pe_int (fun _ _ => rfl)) pa_nil)))
      (pss_one (ps_raise rfl (takes_of rfl rfl rfl rfl) (pmk_oex T.ox_OutOfRange T.ix_OutOfRange T.tx_OutOfRange G_OutOfRange_init (hr.mono (by decide)) T.b_OutOfRange_init .nil pass0 rfl T.m_OutOfRange (pa_cons (pe_ix ix_tup (pv 4) pe_int (fun _ _ => rfl)) pa_nil))))
      pss_nil))))))))), ?_⟩
    obtain ⟨ts, e1, e2, e4, e3⟩ := id hc
    refine ⟨_, rfl, c, _, rfl, e1, rfl, _, rfl, ?_⟩
    by_cases hne : cs = []
    · have hts : ts = [] := List.length_eq_zero_iff.mp (by rw [e2, hne]; rfl)
      rw [show decide (V.int (((ts.map V.ref).length : Nat) : Int) = V.int 0) = true from by rw [hts]; rfl]
      exact iteT ⟨(by show 1 ≤ 1000; decide), fun a na => ⟨a, .int 0, rfl, upd_same, fun d H' nd ne eq => ⟨rfl, d, [("count", .int 0)], raise_asks na (k0 hne) d H' nd ne eq⟩⟩⟩
    have hl : 0 < cs.length := List.length_pos_iff.mpr hne
    have hlt : 0 < ts.length := by omega
    have hlu : 0 < uv.length := by omega
    rw [decide_eq_false (fun z => by injection z with z; rw [List.length_map] at z; omega)]
    refine iteF ?_
    obtain ⟨et, nu, nv⟩ := e3 0 ts[0] uv[0] cs[0] (List.getElem?_eq_getElem hlt) (List.getElem?_eq_getElem hlu) (List.getElem?_eq_getElem hl)
    obtain ⟨kl, kt, ku⟩ := k1 cs[0] uv[0] (List.getElem?_eq_getElem hl) (List.getElem?_eq_getElem hlu)
    refine ⟨_, rfl, ix_any e1 (v := .ref ts[0]) (atI_nat (j := 0) (by rw [List.getElem?_map, List.getElem?_eq_getElem hlt]; rfl)) ?_⟩
    refine ⟨ts[0], _, rfl, SqT.of et, rfl, _, _, rfl, _, _, rfl, rfl, ?_⟩
    refine ⟨_, rfl, uv[0].1, _, n, rfl, nu, fun p1 H1 s1 r1 => ?_⟩
    obtain ⟨t1, b1, ra1, l1, v1, z1⟩ := r1
    obtain ⟨dx1, hp1⟩ := id ra1
    refine ⟨p1, dx1, _, rfl, hp1, p1, t1, b1, rfl, ra1, rfl, _, rfl, ?_⟩
    by_cases f1 : cs[0].1 = 0
    · rw [sign_zero l1 (v1.trans f1)]
      refine iteNS rfl ?_
      refine ⟨_, rfl, uv[0].2, _, n, rfl, nv.on s1, fun p2 H2 s2 r2 => ?_⟩
      obtain ⟨dx2, fs2, hp2, lb2, _⟩ := r2.ins
      refine ⟨p2, dx2, fs2, rfl, hp2, lb2, p2, .int 0, _, 0, n, 1, rfl, r2, NV.int 0 (by decide) (by decide), by omega, by decide, fun H3 s3 => ⟨_, rfl, ite2 (fun hz => ?_) fun hz => ?_⟩⟩
      · have hz' : cs[0].2 < 0 := of_decide_eq_true hz
        exact ⟨_, rfl, (by show 1 ≤ 1000; decide), fun a na => ⟨a, uv[0].2, rfl, upd_same, fun d H' nd ne eq => ⟨rfl, d, [("value", uv[0].2)], raise_asks na ((kt f1 hz').on ((s1.trans s2).trans s3)) d H' nd ne eq⟩⟩⟩
      have hz' : ¬ cs[0].2 < 0 := fun q => hz (decide_eq_true q)
      have hz0 : 0 ≤ cs[0].2 := by grind
      have ku := ku f1 hz0
      have s03 := (s1.trans s2).trans s3
      have done : UpTo cs (cs.length - 1) → Cor cs := fun hu => ⟨hne, fun c hc => by
        rw [List.getElem?_eq_getElem hl] at hc
        rw [← Option.some.inj hc]
        exact ⟨f1, hz0⟩, fun i c d hc hd => hu i c d (by have := (List.getElem?_eq_some_iff.mp hd).1; omega) hc hd⟩
      have hrl : ((ts.map V.ref).drop 1).length + 1 = (ts.map V.ref).length := by rw [List.length_drop, List.length_map]; omega
      have hrc : ((ts.map V.ref).drop 1).length = cs.length - 1 := by rw [List.length_drop, List.length_map, e2]
      refine ⟨_, rfl, _, rfl, 1, rfl, ?_⟩
      rcases e1 with e1 | e1
      case' inl =>
        refine .inl ⟨c, _, rfl, s03.seq e1, fun p3 np3 => ?_⟩
        rw [cut1]
        have sa := same_upd (o := .lst ((ts.map V.ref).drop 1)) np3
        have hp3 : (upd H3 p3 (.lst ((ts.map V.ref).drop 1))) p3 = some (.lst ((ts.map V.ref).drop 1)) := upd_same
        generalize upd H3 p3 (.lst ((ts.map V.ref).drop 1)) = Hs at sa hp3 ⊢
        have s04 := s03.trans sa
        refine ⟨c, p3, _, _, rfl, .inl ⟨s04.seq e1, SqL.of hp3, ?_⟩⟩
        refine for_zipV hrl (fun i σ H' => ∃ x4 x5, σ = [some (.ref c), some uv[0].1, some uv[0].2, x4, x5] ∧ Same Hs H' ∧ UpTo cs i) ⟨none, none, rfl, Same.refl _, fun j _ _ h => absurd h (Nat.not_lt_zero _)⟩ (fun i σ H' ⟨_, _, _, h, _⟩ => ⟨(s04.trans h).seq e1, SqL.of (h _ _ hp3)⟩) ?_ (fun σ H' ⟨_, _, _, h, hu⟩ => k2 (done (hrc ▸ hu)) H' (s04.trans h))
      case' inr =>
        refine .inr ⟨c, _, rfl, sqT_on s03 e1, fun h => absurd h.1 (by rw [show (some (1 : Int)) = some ((1 : Nat) : Int) from rfl, HT.sIx_nat, List.length_map]; omega), fun _ p3 np3 => ?_⟩
        rw [cut1]
        have sa := same_upd (o := .tup ((ts.map V.ref).drop 1)) np3
        have hp3 : (upd H3 p3 (.tup ((ts.map V.ref).drop 1))) p3 = some (.tup ((ts.map V.ref).drop 1)) := upd_same
        generalize upd H3 p3 (.tup ((ts.map V.ref).drop 1)) = Hs at sa hp3 ⊢
        have s04 := s03.trans sa
        refine ⟨c, p3, _, _, rfl, .inr ⟨sqT_on s04 e1, SqT.of hp3, ?_⟩⟩
        refine for_zipU hrl (fun i σ H' => ∃ x4 x5, σ = [some (.ref c), some uv[0].1, some uv[0].2, x4, x5] ∧ Same Hs H' ∧ UpTo cs i) ⟨none, none, rfl, Same.refl _, fun j _ _ h => absurd h (Nat.not_lt_zero _)⟩ (fun i σ H' ⟨_, _, _, h, _⟩ => ⟨sqT_on (s04.trans h) e1, SqT.of (h _ _ hp3)⟩) ?_ (fun σ H' ⟨_, _, _, h, hu⟩ => k2 (done (hrc ▸ hu)) H' (s04.trans h))
      all_goals
        rintro i x y Tt σ H5 gx gy ⟨x4, x5, rfl, s5, hup⟩ nT
        have gb : ((ts.map V.ref).drop 1)[i]? = some y := gy
        have ga : (ts.map V.ref)[i]? = some x := gx
        rw [List.getElem?_drop, Nat.add_comm 1 i] at gb
        have hi1 : i + 1 < cs.length := by
          have := (List.getElem?_eq_some_iff.mp gb).1
          rw [List.length_map] at this
          omega
        have ta : ts[i]? = some (ts[i]'(by omega)) := List.getElem?_eq_getElem (by omega)
        have tb : ts[i + 1]? = some (ts[i + 1]'(by omega)) := List.getElem?_eq_getElem (by omega)
        rw [List.getElem?_map, ta] at ga
        rw [List.getElem?_map, tb] at gb
        obtain rfl := Option.some.inj ga
        obtain rfl := Option.some.inj gb
        have ca : cs[i]? = some (cs[i]'(by omega)) := List.getElem?_eq_getElem (by omega)
        have cb : cs[i + 1]? = some cs[i + 1] := List.getElem?_eq_getElem hi1
        have ua : uv[i]? = some (uv[i]'(by omega)) := List.getElem?_eq_getElem (by omega)
        have ub : uv[i + 1]? = some (uv[i + 1]'(by omega)) := List.getElem?_eq_getElem (by omega)
        obtain ⟨et1, nu1, nv1⟩ := e3 i _ _ _ ta ua ca
        obtain ⟨et2, nu2, nv2⟩ := e3 (i + 1) _ _ _ tb ub cb
        obtain ⟨kx, ky⟩ := ku i _ _ _ ca cb ub hup
        generalize uv[i]'(by omega) = pa at et1 nu1 nv1
        generalize uv[i + 1]'(by omega) = pb at et2 nu2 nv2 kx ky
        have s6 := s5.trans (same_upd (o := .tup [V.ref (ts[i]'(by omega)), .ref (ts[i + 1]'(by omega))]) nT)
        have s06 := s04.trans s6
        refine ⟨Tt, _, rfl, SqT.of upd_same, rfl, _, _, rfl, _, _, rfl, rfl, ?_⟩
        refine ⟨_, rfl, _, _, 0, pa.1, rfl, rfl, SqT.of (s06 _ _ et1), at0, pa.1, _, n, rfl, nu1.on s06, fun p7 H7 s7 r7 => ?_⟩
        obtain ⟨dx7, fs7, hp7, lb7, _⟩ := r7.ins
        have s07 := s06.trans s7
        refine ⟨p7, dx7, fs7, rfl, hp7, lb7, _, rfl, _, _, 0, pb.1, rfl, rfl, SqT.of (s07 _ _ et2), at0, p7, pb.1, _, _, n, n, rfl, r7, nu2.on s07, by omega, by omega, fun H8 s8 => ⟨_, rfl, ?_⟩⟩
        have s08 := s07.trans s8
        by_cases up1 : (cs[i]'(by omega)).1 < cs[i + 1].1
        · rw [decide_eq_true up1]
          refine iteF ?_
          refine ⟨_, rfl, _, _, 1, pb.2, rfl, rfl, SqT.of (s08 _ _ et2), at1, pb.2, _, n, rfl, nv2.on s08, fun p9 H9 s9 r9 => ?_⟩
          obtain ⟨dx9, fs9, hp9, lb9, _⟩ := r9.ins
          have s09 := s08.trans s9
          refine ⟨p9, dx9, fs9, rfl, hp9, lb9, _, rfl, _, _, 1, pa.2, rfl, rfl, SqT.of (s09 _ _ et1), at1, p9, pa.2, _, _, n, n, rfl, r9, nv1.on s09, by omega, by omega, fun H10 s10 => ⟨_, rfl, ?_⟩⟩
          by_cases up2 : cs[i + 1].2 < (cs[i]'(by omega)).2
          · rw [decide_eq_true up2]
            refine iteT ?_
            exact ⟨_, rfl, _, _, 1, pb.2, rfl, rfl, SqT.of (s10 _ _ (s09 _ _ et2)), at1, (by show 1 ≤ 1000; decide), fun a na => ⟨a, pb.2, rfl, upd_same, fun d H' nd ne eq => ⟨rfl, d, [("value", pb.2)], raise_asks na ((ky up1 up2).on (s09.trans s10)) d H' nd ne eq⟩⟩⟩
          · rw [decide_eq_false up2]
            refine iteF ⟨_, _, rfl, s6.trans (((s7.trans s8).trans s9).trans s10), fun j c' d' hj hc hd => ?_⟩
            by_cases e : j = i
            · subst e
              rw [ca] at hc
              rw [cb] at hd
              rw [← Option.some.inj hc, ← Option.some.inj hd]
              exact ⟨up1, by grind⟩
            · exact hup j c' d' (by omega) hc hd
        · rw [decide_eq_false up1]
          refine iteT ?_
          exact ⟨_, rfl, _, _, 0, pb.1, rfl, rfl, SqT.of (s08 _ _ et2), at0, (by show 1 ≤ 1000; decide), fun a na => ⟨a, pb.1, rfl, upd_same, fun d H' nd ne eq => ⟨rfl, d, [("value", pb.1)], raise_asks na ((kx up1).on s08) d H' nd ne eq⟩⟩⟩
    · rw [show (!decide (V.int (sgnI t1) = V.int 0)) = true by simp [sign_ne l1 (fun e => f1 (v1.symm.trans e))]]
      refine iteT ?_
      exact ⟨_, rfl, (by show 1 ≤ 1000; decide), fun a na => ⟨a, uv[0].1, rfl, upd_same, fun d H' nd ne eq => ⟨rfl, d, [("value", uv[0].1)], raise_asks na ((kl f1).on s1) d H' nd ne eq⟩⟩⟩
end

/-! ### the constructor -/
section
variable {P : Program} {w : World} {K : PySem.W.Frag} {mg : Str → Option Value} {base : Heap}
theorem atI_end {α : Type} {xs : List α} {j : Nat} {v : α} (h : xs[j]? = some v) (hl : j + 1 = xs.length) : atI xs (-1) = some v := by
  rcases List.eq_nil_or_concat xs with rfl | ⟨l, a, rfl⟩
  · simp at hl
  · rw [List.concat_eq_append] at *
    rw [List.length_append, List.length_singleton] at hl
    have e : j = l.length := by omega
    subst e
    rw [List.getElem?_append_right (Nat.le_refl _), Nat.sub_self] at h
    rw [← Option.some.inj (show some a = some v from h)]
    exact atI_last l a
def rs (cs : List (Rat × Rat)) (s : Rat) : List Rat := (segs cs s).map Seg.r
theorem rs_len (cs : List (Rat × Rat)) (s : Rat) : (rs cs s).length = cs.length := by unfold rs; rw [List.length_map, segs_len]
theorem rs_at {cs : List (Rat × Rat)} {s : Rat} {i : Nat} {c d : Rat × Rat} (h1 : cs[i]? = some c) (h2 : cs[i + 1]? = some d) : (rs cs s)[i]? = some ((d.2 - c.2) / (d.1 - c.1)) := by
  unfold rs
  rw [List.getElem?_map]
  exact segs_r cs s i c d h1 h2
theorem rs_last {cs : List (Rat × Rat)} {s : Rat} {i : Nat} (h : i + 1 = cs.length) : (rs cs s)[i]? = some s := by
  unfold rs
  rw [List.getElem?_map]
  exact segs_last cs s i h
def spRises (K : PySem.W.Frag) (RC : Addr) : Sp := fun vs H Q _ => ∃ (a b : Addr) (pl pt : List Addr) (cs : List (Rat × Rat)) (s : Rat) (n : Nat), vs = [.ref a, .ref b] ∧ SqL K H a (pl.map V.ref) ∧ SqL K H b (pt.map V.ref) ∧ RVs RC H pl (cs.map (·.1)) n ∧ RVs RC H pt (cs.map (·.2)) n ∧ Up cs ∧ cs ≠ [] ∧ cs.length ≤ 1000 ∧ n ≤ 1900 ∧
  ∀ (p : Addr) (ps : List Addr) H', H p = none → Same H H' → H' p = some (.lst (ps.map V.ref)) → RVs RC H' ps ((rs cs s).take (cs.length - 1)) (4 * n + 2) → Q (.ref p) H'
theorem ok_rises (T : Txt K mg) : FnOk P w K mg base CX0 6 T.f_rises_between T.d_rises_between ["loads", "times"] (spRises K T.f_Ratio) := by
  have G_Ratio_sub : FnOk P w K mg base CX0 5 T.f_Ratio_sub T.d_Ratio_sub ["self", "other"] (spSubV T.f_Ratio) := okv_sub T
  have G_Ratio_over : FnOk P w K mg base CX0 4 T.f_Ratio_over T.d_Ratio_over ["self", "value"] (spOverV T.f_Ratio) := okv_over T
  refine T.F_rises_between.ok sc_rises_between (fun vs H Q E h => ?_) (fun cdv A outer s H vs Q E hr h => ?_)
  · obtain ⟨a, b, pl, pt, cs, s, n, rfl, _⟩ := h
    rfl
  · obtain ⟨a, b, pl, pt, cs, sl, n, rfl, ha, hb, hl, ht, hup, hne, h1000, hn, k⟩ := h
    refine ⟨_, (pss_one (ps_ret (pe_lc (own := [("at", 2)]) (g := gName 2) (tt := tYes) rfl sc_rises_between.nd (pi_range1 rfl T.n_range (pa_cons (pe_op op_sub (pe_callB call_len_seq (by rfl) T.n_len (by decide +kernel) (pa_cons (pv 0) pa_nil)) pe_int) pa_nil)) (blkOk_by (N := ["loads", "times", "at"]) (sc := defScope s_rises_between) (by decide +kernel)) (fun _ _ _ _ _ => pg_name (i := 2) sc_rises_between.nd rfl (Or.inl rfl)) (fun _ _ _ _ _ => pts_nil) (fun _ _ _ _ _ => (pe_meth (pe_op (op_oo (nm := "sub") rfl T.op_Ratio_sub G_Ratio_sub (hr.mono (by decide)) T.b_Ratio_sub pass0) (pe_ix (show IxR _ (rIxL K) from ix_list) (pv 1) (pe_op op_add (pv 2) pe_int) (fun _ _ => rfl)) (pe_ix (show IxR _ (rIxL K) from ix_list) (pv 1) (pv 2) (fun _ _ => rfl))) T.cl_Ratio T.me_Ratio_over G_Ratio_over (hr.mono (by decide)) T.b_Ratio_over .nil pass0 (pa_cons (pe_op (op_oo (nm := "sub") rfl T.op_Ratio_sub G_Ratio_sub (hr.mono (by decide)) T.b_Ratio_sub pass0) (pe_ix (show IxR _ (rIxL K) from ix_list) (pv 0) (pe_op op_add (pv 2) pe_int) (fun _ _ => rfl)) (pe_ix (show IxR _ (rIxL K) from ix_list) (pv 0) (pv 2) (fun _ _ => rfl))) pa_nil)))))), ?_⟩
    have hl0 : 0 < cs.length := List.length_pos_iff.mpr hne
    have hpl : pl.length = cs.length := by rw [hl.1, List.length_map]
    refine ⟨_, rfl, a, _, rfl, .inl ha, _, _, rfl, rfl, ?_⟩
    obtain ⟨j, hj⟩ : ∃ j, j + 1 = cs.length := ⟨cs.length - 1, by omega⟩
    have ej : (((pl.map V.ref).length : Nat) : Int) - 1 = (j : Int) := by rw [List.length_map, hpl]; omega
    refine ⟨(j : Int), congrArg (fun z : Int => [V.int z]) ej, by omega, by omega, fun D hD => ?_⟩
    refine lc_range (lo := 0) (n := j) (fun i H1 => ∃ ps : List Addr, H1 D = some (.lst (ps.map V.ref)) ∧ RVs T.f_Ratio H1 ps ((rs cs sl).take i) (4 * n + 2) ∧ Same H H1) ⟨[], upd_same, .nil, same_upd hD⟩ ?_ ?_
    · intro i H1 hi ⟨ps, eD, hR, s1⟩
      have h1 : i < cs.length := by omega
      have h2 : i + 1 < cs.length := by omega
      have c1 : cs[i]? = some cs[i] := List.getElem?_eq_getElem h1
      have c2 : cs[i + 1]? = some cs[i + 1] := List.getElem?_eq_getElem h2
      have e0 : (0 : Int) + (i : Int) = (i : Int) := Int.zero_add _
      have e1 : (0 : Int) + (i : Int) + 1 = ((i + 1 : Nat) : Int) := by omega
      obtain ⟨x1, ax1, _, vx1⟩ := (hl.on s1).at (i := i) (x := cs[i].1) (by rw [List.getElem?_map, c1]; rfl)
      obtain ⟨x2, ax2, _, vx2⟩ := (hl.on s1).at (i := i + 1) (x := cs[i + 1].1) (by rw [List.getElem?_map, c2]; rfl)
      obtain ⟨t1, at1', _, vt1⟩ := (ht.on s1).at (i := i) (x := cs[i].2) (by rw [List.getElem?_map, c1]; rfl)
      obtain ⟨t2, at2', _, vt2⟩ := (ht.on s1).at (i := i + 1) (x := cs[i + 1].2) (by rw [List.getElem?_map, c2]; rfl)
      refine ⟨rfl, _, rfl, _, rfl, _, _, rfl, rfl, b, _, _, _, rfl, rfl, s1.seq hb, by rw [e1]; exact at2', ?_⟩
      refine ⟨_, rfl, _, rfl, b, _, _, _, rfl, rfl, s1.seq hb, by rw [e0]; exact at1', ?_⟩
      refine oo_of vt2 vt1 ⟨t2, .ref t1, cs[i + 1].2, cs[i].2, n, n, rfl, vt2, vt1.num, by omega, by omega, fun o1 H2 n1 s2 w1 => ?_⟩
      obtain ⟨dx, fs, ho1, _, lo1⟩ := w1.ins
      have s12 := s1.trans s2
      refine ⟨o1, dx, fs, rfl, ho1, lo1, ?_⟩
      refine ⟨_, rfl, _, rfl, _, _, rfl, rfl, a, _, _, _, rfl, rfl, s12.seq ha, by rw [e1]; exact ax2, ?_⟩
      refine ⟨_, rfl, _, rfl, a, _, _, _, rfl, rfl, s12.seq ha, by rw [e0]; exact ax1, ?_⟩
      refine oo_of (vx2.on s2) (vx1.on s2) ⟨x2, .ref x1, cs[i + 1].1, cs[i].1, n, n, rfl, vx2.on s2, (vx1.on s2).num, by omega, by omega, fun o2 H3 n2 s3 w2 => ?_⟩
      have hlt := (hup i _ _ c1 c2).1
      refine ⟨o1, .ref o2, _, _, n + n + 1, n + n + 1, rfl, w1.on s3, w2.num, by omega, by omega, by grind, fun o3 H4 n3 s4 w3 => ?_⟩
      have s24 := (s2.trans s3).trans s4
      have hD4 : H4 D = some (.lst (ps.map V.ref)) := s24 _ _ eD
      have hdl : ps.length = ((rs cs sl).take i).length := hR.1
      refine ⟨ps.map V.ref, hD4, small1000 (by rw [List.length_map, hdl, List.length_take]; omega), ps ++ [o3], ?_, ?_, ?_⟩
      · rw [upd_same, List.map_append]
        rfl
      · have nD : ∀ (q : Addr) (x : Rat) (m : Nat), RV T.f_Ratio H4 q x m → RV T.f_Ratio (upd H4 D (.lst (ps.map V.ref ++ [V.ref o3]))) q x m := fun q x m ⟨t, bb, ⟨dq, hq⟩, h⟩ => ⟨t, bb, ⟨dq, by rw [upd_ne (fun e => by rw [e, hD4] at hq; cases hq)]; exact hq⟩, h⟩
        rw [take_more (rs_at c1 c2)]
        have hR4 := (hR.on s24).snoc (w3.mono (m := 4 * n + 2) (by omega))
        exact ⟨hR4.1, fun i p x h1 h2 => nD p x _ (hR4.2 i p x h1 h2)⟩
      · exact same_mut (s1.trans s24) hD
    · rintro H1 ⟨ps, eD, hR, s1⟩
      have e : cs.length - 1 = j := by omega
      exact k D ps H1 hD s1 eD (by rw [e]; exact hR)
theorem RV.put {C : Addr} {H : Hp} {D : Addr} {xs ys : List V} {p : Addr} {x : Rat} {n : Nat} (hD : H D = some (.lst xs)) (r : RV C H p x n) : RV C (upd H D (.lst ys)) p x n :=
  let ⟨t, b, ⟨dq, hq⟩, h⟩ := r; ⟨t, b, ⟨dq, by rw [upd_ne (fun e => by rw [e, hD] at hq; cases hq)]; exact hq⟩, h⟩
theorem RVs.put {C : Addr} {H : Hp} {D : Addr} {xs ys : List V} {ps : List Addr} {zs : List Rat} {n : Nat} (hD : H D = some (.lst xs)) (r : RVs C H ps zs n) : RVs C (upd H D (.lst ys)) ps zs n := ⟨r.1, fun i p x h1 h2 => (r.2 i p x h1 h2).put hD⟩
theorem RVs.take {C : Addr} {H : Hp} {ps : List Addr} {xs : List Rat} {n : Nat} (r : RVs C H ps xs n) (h : ps.length = xs.length := by exact r.1) : RVs C H ps xs n := r
/-- the places of the bends -/
def Idx (l : List Seg) (idx : List Nat) (i : Nat) : Prop := idx.map (fun j => l[j]?) = (bends (l.take i)).map some
theorem Idx.zero (l : List Seg) : Idx l [] 0 := rfl
theorem Idx.first {l : List Seg} {s : Seg} (h : l[0]? = some s) : Idx l [0] 1 := by
  cases l with
  | nil => cases h
  | cons a r => rfl
theorem Idx.step {l : List Seg} {idx : List Nat} {i : Nat} {u v : Seg} (h : Idx l idx (i + 1)) (hv : l[i]? = some v) (hu : l[i + 1]? = some u) : Idx l (if u.r = v.r then idx else idx ++ [i + 1]) (i + 2) := by
  unfold Idx at *
  have hl : (l.take (i + 1)).getLast? = some v := by
    rw [take_more hv]
    simp
  rw [take_more (i := i + 1) hu, bends_snoc hl]
  by_cases e : u.r = v.r
  · rw [if_pos e, if_pos e, List.append_nil]
    exact h
  · rw [if_neg e, if_neg e, List.map_append, List.map_append, h]
    show _ ++ [l[i + 1]?] = _ ++ [some u]
    rw [hu]
theorem Idx.at {l : List Seg} {idx : List Nat} {n : Nat} (h : Idx l idx n) {k j : Nat} (hk : idx[k]? = some j) : ∃ s, l[j]? = some s ∧ (bends (l.take n))[k]? = some s := by
  have e := congrArg (fun m : List (Option Seg) => m[k]?) h
  simp only [List.getElem?_map] at e
  rw [hk] at e
  cases hb : (bends (l.take n))[k]? with
  | none => rw [hb] at e; cases e
  | some s =>
    rw [hb] at e
    exact ⟨s, Option.some.inj e, rfl⟩
theorem Idx.len {l : List Seg} {idx : List Nat} {n : Nat} (h : Idx l idx n) : idx.length = (bends (l.take n)).length := by
  have e := congrArg List.length h
  rwa [List.length_map, List.length_map] at e
end

section
variable {P : Program} {w : World} {K : PySem.W.Frag} {mg : Str → Option Value} {base : Heap}
theorem put3 (a b c : Addr) : putF "_rises" (.ref c) (putF "_times" (.ref b) (putF "_loads" (.ref a) [])) = lf a b c := by
  have h1 : ("_loads" : Str) ≠ "_times" := by decide +kernel
  have h2 : ("_loads" : Str) ≠ "_rises" := by decide +kernel
  have h3 : ("_times" : Str) ≠ "_rises" := by decide +kernel
  simp [putF, lf, h1, h2, h3]
def KP (p : Addr) (H H' : Hp) : Prop := ∀ a o, H a = some o → a ≠ p → H' a = some o
theorem KP.refl (p : Addr) (H : Hp) : KP p H H := fun _ _ h _ => h
theorem KP.trans {p : Addr} {H H1 H2 : Hp} (a : KP p H H1) (b : KP p H1 H2) : KP p H H2 := fun q o h n => b q o (a q o h n) n
theorem KP.same {p : Addr} {H H1 H2 : Hp} (a : KP p H H1) (b : Same H1 H2) : KP p H H2 := fun q o h n => b q o (a q o h n)
theorem KP.put {p : Addr} {H : Hp} {o : HO} : KP p H (upd H p o) := fun q o' h n => by rw [upd_ne n]; exact h
/-- what stands at p is no ratio -/
def NoR (H : Hp) (p : Addr) : Prop := ∀ C dx fs, H p = some (.ins C dx fs) → fs.lookup ("_top" : Str) = none
theorem NoR.of {H : Hp} {p : Addr} {C dx : Addr} {fs : List (Str × V)} (h : H p = some (.ins C dx fs)) (k : fs.lookup ("_top" : Str) = none) : NoR H p := fun C' dx' fs' h' => by
  rw [h] at h'
  injection h' with h'
  injection h' with _ _ h'
  rw [← h']
  exact k
theorem RV.kp {C : Addr} {H H' : Hp} {p q : Addr} {x : Rat} {n : Nat} (hp : NoR H p) (k : KP p H H') (r : RV C H q x n) : RV C H' q x n :=
  let ⟨t, b, ⟨dq, hq⟩, h⟩ := r; ⟨t, b, ⟨dq, k _ _ hq (fun e => by rw [e] at hq; have := hp _ _ _ hq; rw [rf_top] at this; cases this)⟩, h⟩
theorem RVs.kp {C : Addr} {H H' : Hp} {p : Addr} {ps : List Addr} {zs : List Rat} {n : Nat} (hp : NoR H p) (k : KP p H H') (r : RVs C H ps zs n) : RVs C H' ps zs n := ⟨r.1, fun i q x h1 h2 => (r.2 i q x h1 h2).kp hp k⟩
def lf1 (a : Addr) : List (Str × V) := [("_loads", .ref a)]
def lf2 (a b : Addr) : List (Str × V) := [("_loads", .ref a), ("_times", .ref b)]
theorem put1 (a : Addr) : putF "_loads" (.ref a) [] = lf1 a := by simp [putF, lf1]
theorem put2 (a b : Addr) : putF "_times" (.ref b) (lf1 a) = lf2 a b := by
  have h1 : ("_loads" : Str) ≠ "_times" := by decide +kernel
  simp [putF, h1, lf1, lf2]
theorem put3' (a b c : Addr) : putF "_rises" (.ref c) (lf2 a b) = lf a b c := by rw [← put2, ← put1, put3]
theorem nt1 : (("_top" : Str) == ("_loads" : Str)) = false := by decide +kernel
theorem nt2 : (("_top" : Str) == ("_times" : Str)) = false := by decide +kernel
theorem nt3 : (("_top" : Str) == ("_rises" : Str)) = false := by decide +kernel
theorem ntop1 (a : Addr) : (lf1 a).lookup ("_top" : Str) = none := by simp [lf1, List.lookup, nt1]
theorem ntop2 (a b : Addr) : (lf2 a b).lookup ("_top" : Str) = none := by simp [lf2, List.lookup, nt1, nt2]
theorem ntop3 (a b c : Addr) : (lf a b c).lookup ("_top" : Str) = none := by simp [lf, List.lookup, nt1, nt2, nt3]
theorem cor_up {cs : List (Rat × Rat)} (h : Cor cs) : Up cs := h.2.2
def LineDue (LC RC D DC : Addr) (p : Addr) (y : V) (sl : Rat) (uv : List (V × V)) (cs : List (Rat × Rat)) (n : Nat) (H : Hp) (Q : VK) (E : XK) : Prop :=
  CheckDue D DC uv cs H (0 ≤ sl → ∀ H', LineAt LC RC H' p (bends (segs cs sl)) (4 * n + 2) → (∀ a o, H a = some o → a ≠ p → H' a = some o) → Q .non H') E ∧ (Cor cs → sl < 0 → Raised H "value" y D E)
def spLineG (K : PySem.W.Frag) (LC RC D DC : Addr) : Sp := fun vs H Q E => ∃ (p dx c : Addr) (y : V) (uv : List (V × V)) (cs : List (Rat × Rat)) (s : Rat) (n m : Nat), vs = [.ref p, .ref c, y] ∧ H p = some (.ins LC dx []) ∧ CorV K RC H c uv cs n ∧ cs.length ≤ 100 ∧ NV RC H y s m ∧ n ≤ 900 ∧ m ≤ 4 * n + 2 ∧ m ≤ 900 ∧ LineDue LC RC D DC p y s uv cs n H Q E
theorem CheckDue.on {D DC : Addr} {uv : List (V × V)} {cs : List (Rat × Rat)} {H H2 : Hp} {Q : Prop} {E : XK} (h : CheckDue D DC uv cs H Q E) (s : Same H H2) : CheckDue D DC uv cs H2 Q E :=
  ⟨fun e => (h.1 e).on s, fun c p hc hp => let k := h.2.1 c p hc hp; ⟨fun e => (k.1 e).on s, fun e f => (k.2.1 e f).on s, fun e f i d g q hd hg hq hu => let z := k.2.2 e f i d g q hd hg hq hu; ⟨fun a => (z.1 a).on s, fun a b => (z.2 a b).on s⟩⟩, h.2.2⟩
theorem CheckDue.imp {D DC : Addr} {uv : List (V × V)} {cs : List (Rat × Rat)} {H : Hp} {Q Q2 : Prop} {E : XK} (h : CheckDue D DC uv cs H Q E) (k : Cor cs → Q → Q2) : CheckDue D DC uv cs H Q2 E := ⟨h.1, h.2.1, fun c => k c (h.2.2 c)⟩
theorem lc_seq {a : Addr} {xs : List V} {g : TG} {tt : TT} {te : TE} {vs : List Nat} {σ : L2.St} {H0 H1 : Hp} {Qd : Addr → Hp → Prop} (hq : SqL K H0 a xs ∨ SqT K H0 a xs) (Pv : Addr → Nat → Hp → Prop) (h1 : (SqL K H0 a xs → SqL K H1 a xs) ∧ (SqT K H0 a xs → SqT K H1 a xs)) (h0 : ∀ D, H1 D = none → Pv D 0 (upd H1 D (.lst [])))
    (hl : ∀ D i H, Pv D i H → (SqL K H0 a xs → SqL K H a xs) ∧ (SqT K H0 a xs → SqT K H a xs))
    (hs : ∀ D, H1 D = none → ∀ i x H, xs[i]? = some x → Pv D i H → g x (wipe σ vs) H fun σ2 H2 => wipe σ2 vs = wipe σ vs ∧ tt σ2 H2 fun b H3 =>
      if b = true then te σ2 H3 fun y H4 => ∃ acc, H4 D = some (.lst acc) ∧ acc.length < sizeLine ∧ Pv D (i + 1) (upd H4 D (.lst (acc ++ [y]))) else Pv D (i + 1) H3) (hd : ∀ D H, H1 D = none → Pv D xs.length H → Qd D H) :
    ((∃ xs, SqL K H1 a xs) ∧ ∀ D, H1 D = none → ∃ W : Nat → Nat → Hp → Prop, (∃ m, W 0 m (upd H1 D (.lst []))) ∧ ∀ i m H, W i m H →
      ((Itl K a).stop i H ∧ Qd D H) ∨ ((Itl K a).go i H ∧ ∃ Nx : Hp → Prop, (∀ H', Nx H' → ∃ m', m' < m ∧ W (i + 1) m' H') ∧ ∀ x H', (Itl K a).yld i H x H' → g x (wipe σ vs) H' fun σ2 H2 => wipe σ2 vs = wipe σ vs ∧ tt σ2 H2 fun b H3 =>
        if b = true then te σ2 H3 fun y H4 => ∃ acc, H4 D = some (.lst acc) ∧ acc.length < sizeLine ∧ Nx (upd H4 D (.lst (acc ++ [y]))) else Nx H3)) ∨
    ((∃ xs, SqT K H1 a xs) ∧ ∀ D, H1 D = none → ∃ W : Nat → Nat → Hp → Prop, (∃ m, W 0 m (upd H1 D (.lst []))) ∧ ∀ i m H, W i m H →
      ((Itt K a).stop i H ∧ Qd D H) ∨ ((Itt K a).go i H ∧ ∃ Nx : Hp → Prop, (∀ H', Nx H' → ∃ m', m' < m ∧ W (i + 1) m' H') ∧ ∀ x H', (Itt K a).yld i H x H' → g x (wipe σ vs) H' fun σ2 H2 => wipe σ2 vs = wipe σ vs ∧ tt σ2 H2 fun b H3 =>
        if b = true then te σ2 H3 fun y H4 => ∃ acc, H4 D = some (.lst acc) ∧ acc.length < sizeLine ∧ Nx (upd H4 D (.lst (acc ++ [y]))) else Nx H3)) := by
  rcases hq with hq | hq
  · exact .inl ⟨⟨_, h1.1 hq⟩, fun D nD => lc_list (Pv D) (h0 D nD) (fun i H' _ p => (hl D i H' p).1 hq) (hs D nD) fun H' p => hd D H' nD p⟩
  · exact .inr ⟨⟨_, h1.2 hq⟩, fun D nD => lc_tup (Pv D) (h0 D nD) (fun i H' _ p => (hl D i H' p).2 hq) (hs D nD) fun H' p => hd D H' nD p⟩
theorem ok_lineG (T : Txt K mg) : FnOk P w K mg base (L2.CX P w) 7 T.f_Line_init T.d_Line_init ["self", "corners", "slope"] (spLineG K T.f_Line T.f_Ratio T.f_OutOfRange T.f_BadCount) := by
  have GX_check_corners : FnOk P w K mg base (L2.CX P w) 5 T.f_check_corners T.d_check_corners ["corners"] (spCheckG K T.f_Ratio T.f_OutOfRange T.f_BadCount) := ok_checkG T
  have G_OutOfRange_init : FnOk P w K mg base CX0 1 T.f_OutOfRange_init T.d_OutOfRange_init ["self", "value"] (spOor T.f_OutOfRange) := ok_oor T
  have G_as_ratio : FnOk P w K mg base CX0 3 T.f_as_ratio T.d_as_ratio ["value"] (spAsV T.f_Ratio) := okv_as T
  have G_Ratio_below : FnOk P w K mg base CX0 4 T.f_Ratio_below T.d_Ratio_below ["self", "value"] (spBelowV T.f_Ratio) := okv_below T
  have G_rises_between : FnOk P w K mg base CX0 6 T.f_rises_between T.d_rises_between ["loads", "times"] (spRises K T.f_Ratio) := ok_rises T
  have G_Ratio_eq : FnOk P w K mg base CX0 1 T.f_Ratio_eq T.d_Ratio_eq ["self", "other"] (spEqV T.f_Ratio) := okv_eq T
  refine T.F_Line_init.okX sc_Line_init (fun vs H Q E h => ?_) (fun cdv A outer s H vs Q E hr h => ?_)
  · obtain ⟨p, dx, c, y, uv, cs, s, n, m, rfl, _⟩ := h
    rfl
  · obtain ⟨p, dx, c, y, uv, cs, sl, n, m, rfl, hp, hc, h900, hy, hn, hm, hm9, kC, kS⟩ := h
    refine ⟨_, (pss_cons (ps_expr (pe_call GX_check_corners (hr.mono (by decide)) rfl T.m_check_corners T.F_check_corners.kp T.b_check_corners .nil (passX (takes_of rfl rfl rfl rfl)) (pa_cons (pv 1) pa_nil)))
    (pss_cons (ps_if (pt_val (pe_meth (pe_call G_as_ratio (hr.mono (by decide)) rfl T.m_as_ratio T.F_as_ratio.kp T.b_as_ratio .nil pass0 (pa_cons (pv 2) pa_nil)) T.cl_Ratio T.me_Ratio_below G_Ratio_below (hr.mono (by decide)) T.b_Ratio_below .nil pass0 (pa_cons pe_int pa_nil)))
      (pss_one (ps_raise rfl (takes_of rfl rfl rfl rfl) (pmk_oex T.ox_OutOfRange T.ix_OutOfRange T.tx_OutOfRange G_OutOfRange_init (hr.mono (by decide)) T.b_OutOfRange_init .nil pass0 rfl T.m_OutOfRange (pa_cons (pv 2) pa_nil))))
      pss_nil)
    (pss_cons (ps_set (i := 3) sc_Line_init.nd rfl (Or.inr rfl) (pe_lc (own := [("corner", 7)]) (g := gName 7) (tt := tYes) rfl sc_Line_init.nd (pi_seq (pv 1)) (blkOk_by (N := ["self", "corners", "slope", "loads", "times", "rises", "bends", "corner", "at"]) (sc := defScope s_Line_init) (by decide +kernel)) (fun _ _ _ _ _ => pg_name (i := 7) sc_Line_init.nd rfl (Or.inl rfl)) (fun _ _ _ _ _ => pts_nil) (fun _ _ _ _ _ => (pe_call G_as_ratio (hr.mono (by decide)) rfl T.m_as_ratio T.F_as_ratio.kp T.b_as_ratio .nil pass0 (pa_cons (pe_ix (show IxR _ (rIxT K) from ix_tup) (pv 7) pe_int (fun _ _ => rfl)) pa_nil)))))
    (pss_cons (ps_set (i := 4) sc_Line_init.nd rfl (Or.inr rfl) (pe_lc (own := [("corner", 7)]) (g := gName 7) (tt := tYes) rfl sc_Line_init.nd (pi_seq (pv 1)) (blkOk_by (N := ["self", "corners", "slope", "loads", "times", "rises", "bends", "corner", "at"]) (sc := defScope s_Line_init) (by decide +kernel)) (fun _ _ _ _ _ => pg_name (i := 7) sc_Line_init.nd rfl (Or.inl rfl)) (fun _ _ _ _ _ => pts_nil) (fun _ _ _ _ _ => (pe_call G_as_ratio (hr.mono (by decide)) rfl T.m_as_ratio T.F_as_ratio.kp T.b_as_ratio .nil pass0 (pa_cons (pe_ix (show IxR _ (rIxT K) from ix_tup) (pv 7) pe_int (fun _ _ => rfl)) pa_nil)))))
    (pss_cons (ps_set (i := 5) sc_Line_init.nd rfl (Or.inr rfl) (pe_op op_cat (pe_call G_rises_between (hr.mono (by decide)) rfl T.m_rises_between T.F_rises_between.kp T.b_rises_between .nil pass0 (pa_cons (pv 3) (pa_cons (pv 4) pa_nil))) (pe_lst (pa_cons (pe_call G_as_ratio (hr.mono (by decide)) rfl T.m_as_ratio T.F_as_ratio.kp T.b_as_ratio .nil pass0 (pa_cons (pv 2) pa_nil)) pa_nil))))
    (pss_cons (ps_setLc (i := 6) (own := [("at", 8)]) (g := gName 8) rfl sc_Line_init.nd rfl rfl (sw_true rfl rfl rfl (by decide +kernel)) (pi_range1 rfl T.n_range (pa_cons (pe_callB call_len_seq (by rfl) T.n_len (by decide +kernel) (pa_cons (pv 3) pa_nil)) pa_nil)) (blkOk_by (N := ["self", "corners", "slope", "loads", "times", "rises", "bends", "corner", "at"]) (sc := defScope s_Line_init) (by decide +kernel)) (fun _ _ _ _ _ => pg_name (i := 8) sc_Line_init.nd rfl (Or.inl rfl)) (fun _ _ _ _ _ => pts_one (PW.pt (pw_or (pt_cmpR op_eq (pv 8) pe_int (nomark _)) (pw_or1 (pt_cmpR (ne_own T.none_Ratio G_Ratio_eq (hr.mono (by decide)) T.b_Ratio_eq pass0) (pe_ix (show IxR _ (rIxL K) from ix_list) (pv 5) (pv 8) (fun _ _ => rfl)) (pe_ix (show IxR _ (rIxL K) from ix_list) (pv 5) (pe_op op_sub (pv 8) pe_int) (fun _ _ => rfl)) (nomark _)))))) (fun _ _ _ _ _ => (pv 8)))
    (pss_cons (ps_fld (pv 0) (pe_callTy call_tuple_of (by rfl) T.n_tuple (by decide +kernel) (pa_cons (pe_lc (own := [("at", 8)]) (g := gName 8) (tt := tYes) rfl sc_Line_init.nd (pi_list (pv 6)) (blkOk_by (N := ["self", "corners", "slope", "loads", "times", "rises", "bends", "corner", "at"]) (sc := defScope s_Line_init) (by decide +kernel)) (fun _ _ _ _ _ => pg_name (i := 8) sc_Line_init.nd rfl (Or.inl rfl)) (fun _ _ _ _ _ => pts_nil) (fun _ _ _ _ _ => (pe_ix (show IxR _ (rIxL K) from ix_list) (pv 3) (pv 8) (fun _ _ => rfl)))) pa_nil)) rfl)
    (pss_cons (ps_fld (pv 0) (pe_callTy call_tuple_of (by rfl) T.n_tuple (by decide +kernel) (pa_cons (pe_lc (own := [("at", 8)]) (g := gName 8) (tt := tYes) rfl sc_Line_init.nd (pi_list (pv 6)) (blkOk_by (N := ["self", "corners", "slope", "loads", "times", "rises", "bends", "corner", "at"]) (sc := defScope s_Line_init) (by decide +kernel)) (fun _ _ _ _ _ => pg_name (i := 8) sc_Line_init.nd rfl (Or.inl rfl)) (fun _ _ _ _ _ => pts_nil) (fun _ _ _ _ _ => (pe_ix (show IxR _ (rIxL K) from ix_list) (pv 4) (pv 8) (fun _ _ => rfl)))) pa_nil)) rfl)
    (pss_one (ps_fld (pv 0) (pe_callTy call_tuple_of (by rfl) T.n_tuple (by decide +kernel) (pa_cons (pe_lc (own := [("at", 8)]) (g := gName 8) (tt := tYes) rfl sc_Line_init.nd (pi_list (pv 6)) (blkOk_by (N := ["self", "corners", "slope", "loads", "times", "rises", "bends", "corner", "at"]) (sc := defScope s_Line_init) (by decide +kernel)) (fun _ _ _ _ _ => pg_name (i := 8) sc_Line_init.nd rfl (Or.inl rfl)) (fun _ _ _ _ _ => pts_nil) (fun _ _ _ _ _ => (pe_ix (show IxR _ (rIxL K) from ix_list) (pv 5) (pv 8) (fun _ _ => rfl)))) pa_nil)) rfl)))))))))), ?_⟩
    obtain ⟨ts, e1, e2, e4, e3⟩ := id hc
    refine ⟨_, rfl, c, uv, cs, n, rfl, hc, by omega, by omega, kC.imp fun hcor k H1 s1 => ?_⟩
    have hup := cor_up hcor
    refine ⟨_, rfl, y, sl, m, rfl, hy.on s1, fun q2 H2 s2 r2 => ?_⟩
    obtain ⟨dx2, fs2, hq2, lb2, _⟩ := r2.ins
    refine ⟨q2, dx2, fs2, rfl, hq2, lb2, q2, .int 0, sl, 0, m, 1, rfl, r2, NV.int 0 (by decide) (by decide), by omega, by decide, fun H3 s3 => ⟨_, rfl, ?_⟩⟩
    have t3 := (s1.trans s2).trans s3
    by_cases hs0 : sl < 0
    · rw [decide_eq_true hs0]
      refine iteT ?_
      exact ⟨_, rfl, (by show 1 ≤ 1000; decide), fun a na => ⟨a, y, rfl, upd_same, fun d H' nd ne eq => ⟨rfl, d, [("value", y)], raise_asks na ((kS hcor hs0).on t3) d H' nd ne eq⟩⟩⟩
    rw [decide_eq_false hs0]
    have hs : 0 ≤ sl := by grind
    have k := k hs
    refine iteF ?_
    -- loads, times
    refine ⟨_, rfl, c, rfl, ?_⟩
    refine lc_seq e1 (fun D1 i H4 => ∃ ps : List Addr, H4 D1 = some (.lst (ps.map V.ref)) ∧ RVs T.f_Ratio H4 ps ((cs.map (·.1)).take i) n ∧ Same H3 H4) ⟨fun e => t3.seq e, fun e => sqT_on t3 e⟩ (fun D1 nD1 => ⟨[], upd_same, .nil, same_upd nD1⟩) (fun D1 i H4 ⟨_, _, _, sm⟩ => ⟨fun e => (t3.trans sm).seq e, fun e => sqT_on (t3.trans sm) e⟩) ?_ ?_
    · intro D1 nD1 i x H4 hi ⟨ps, eD, hR, s4⟩
      have hi' : i < cs.length := by
        have := (List.getElem?_eq_some_iff.mp hi).1
        rw [List.length_map, e2] at this
        exact this
      have ta : ts[i]? = some (ts[i]'(by omega)) := List.getElem?_eq_getElem (by omega)
      rw [List.getElem?_map, ta] at hi
      obtain rfl := Option.some.inj hi
      have ca : cs[i]? = some cs[i] := List.getElem?_eq_getElem hi'
      have ua : uv[i]? = some (uv[i]'(by omega)) := List.getElem?_eq_getElem (by omega)
      obtain ⟨et, nu, nv⟩ := e3 i _ _ _ ta ua ca
      generalize uv[i]'(by omega) = pq at et nu nv
      obtain ⟨u, v⟩ := pq
      have t4 := t3.trans s4
      refine ⟨rfl, _, rfl, _, _, 0, u, rfl, rfl, SqT.of (t4 _ _ et), at0, u, _, n, rfl, nu.on t4, fun q H5 s5 r5 => ?_⟩
      have eD5 := s5 _ _ eD
      refine ⟨ps.map V.ref, eD5, small1000 (by rw [List.length_map, hR.1, List.length_take]; omega), ps ++ [q], ?_, ?_, ?_⟩
      · rw [upd_same, List.map_append]; rfl
      · rw [take_more (by rw [List.getElem?_map, ca]; rfl)]
        exact ((hR.on s5).snoc r5).put eD5
      · exact same_mut (s4.trans s5) nD1
    rintro D1 H4 nD1 ⟨pl, eD1, hR1, s4⟩
    rw [List.take_of_length_le (by rw [List.length_map, List.length_map, e2]; exact Nat.le_refl _)] at hR1
    have t4 := t3.trans s4
    refine ⟨_, rfl, c, rfl, ?_⟩
    refine lc_seq e1 (fun D2 i H5 => ∃ ps : List Addr, H5 D2 = some (.lst (ps.map V.ref)) ∧ RVs T.f_Ratio H5 ps ((cs.map (·.2)).take i) n ∧ Same H4 H5) ⟨fun e => t4.seq e, fun e => sqT_on t4 e⟩ (fun D2 nD2 => ⟨[], upd_same, .nil, same_upd nD2⟩) (fun D2 i H5 ⟨_, _, _, sm⟩ => ⟨fun e => (t4.trans sm).seq e, fun e => sqT_on (t4.trans sm) e⟩) ?_ ?_
    · intro D2 nD2 i x H5 hi ⟨ps, eD, hR, s5⟩
      have hi' : i < cs.length := by
        have := (List.getElem?_eq_some_iff.mp hi).1
        rw [List.length_map, e2] at this
        exact this
      have ta : ts[i]? = some (ts[i]'(by omega)) := List.getElem?_eq_getElem (by omega)
      rw [List.getElem?_map, ta] at hi
      obtain rfl := Option.some.inj hi
      have ca : cs[i]? = some cs[i] := List.getElem?_eq_getElem hi'
      have ua : uv[i]? = some (uv[i]'(by omega)) := List.getElem?_eq_getElem (by omega)
      obtain ⟨et, nu, nv⟩ := e3 i _ _ _ ta ua ca
      generalize uv[i]'(by omega) = pq at et nu nv
      obtain ⟨u, v⟩ := pq
      have t5 := t4.trans s5
      refine ⟨rfl, _, rfl, _, _, 1, v, rfl, rfl, SqT.of (t5 _ _ et), at1, v, _, n, rfl, nv.on t5, fun q H6 s6 r6 => ?_⟩
      have eD6 := s6 _ _ eD
      refine ⟨ps.map V.ref, eD6, small1000 (by rw [List.length_map, hR.1, List.length_take]; omega), ps ++ [q], ?_, ?_, ?_⟩
      · rw [upd_same, List.map_append]; rfl
      · rw [take_more (by rw [List.getElem?_map, ca]; rfl)]
        exact ((hR.on s6).snoc r6).put eD6
      · exact same_mut (s5.trans s6) nD2
    rintro D2 H5 nD2 ⟨pt, eD2, hR2, s5⟩
    rw [List.take_of_length_le (by rw [List.length_map, List.length_map, e2]; exact Nat.le_refl _)] at hR2
    have t5 := t4.trans s5
    have hR1' := hR1.on s5
    have eD1' := s5 _ _ eD1
    -- rises
    refine ⟨_, rfl, _, rfl, D1, D2, pl, pt, cs, sl, n, rfl, SqL.of eD1', SqL.of eD2, hR1', hR2, hup, hcor.1, by omega, by omega, fun p3 pr H6 np3 s6 ep3 hR3 => ?_⟩
    have t6 := t5.trans s6
    refine ⟨_, rfl, y, sl, m, rfl, hy.on t6, fun q4 H7 s7 r7 => ?_⟩
    refine ⟨by show 1 ≤ sizeLine; decide, fun l4 nl4 => ?_⟩
    have u7 := same_upd (o := .lst [V.ref q4]) nl4
    have hprl : pr.length = cs.length - 1 := by rw [hR3.1, List.length_take, rs_len]; omega
    refine ⟨p3, l4, _, _, rfl, rfl, u7 _ _ (s7 _ _ ep3), upd_same, ?_, fun R nR => ?_⟩
    · rw [List.length_map, hprl]
      exact Nat.le_trans (show _ ≤ 1000 by simp; omega) (by decide)
    have u8 := same_upd (o := .lst (pr.map V.ref ++ [V.ref q4])) nR
    have hcl : 0 < cs.length := List.length_pos_iff.mpr hcor.1
    have hR4 : RVs T.f_Ratio (upd (upd H7 l4 (.lst [V.ref q4])) R (.lst (pr.map V.ref ++ [V.ref q4]))) (pr ++ [q4]) (rs cs sl) (4 * n + 2) := by
      have h1 := (((hR3.on s7).on u7).on u8).snoc (((r7.on u7).on u8).mono hm)
      have h2 : (rs cs sl).take (cs.length - 1) ++ [sl] = rs cs sl := by
        rw [← take_more (rs_last (show cs.length - 1 + 1 = cs.length by omega)), List.take_of_length_le]
        rw [rs_len]
        omega
      rw [h2] at h1
      exact h1
    have eR : (upd (upd H7 l4 (.lst [V.ref q4])) R (.lst (pr.map V.ref ++ [V.ref q4]))) R = some (.lst ((pr ++ [q4]).map V.ref)) := by
      rw [upd_same, List.map_append]; rfl
    have t8 : Same H (upd (upd H7 l4 (.lst [V.ref q4])) R (.lst (pr.map V.ref ++ [V.ref q4]))) := ((t6.trans s7).trans u7).trans u8
    have s58 : Same H5 (upd (upd H7 l4 (.lst [V.ref q4])) R (.lst (pr.map V.ref ++ [V.ref q4]))) := ((s6.trans s7).trans u7).trans u8
    revert hR4 eR t8 s58
    generalize upd (upd H7 l4 (.lst [V.ref q4])) R (.lst (pr.map V.ref ++ [V.ref q4])) = H8
    generalize pr ++ [q4] = pr'
    intro hR4 eR t8 s58
    have hL1 := hR1'.on s58
    have hL2 := hR2.on s58
    have eL1 := s58 _ _ eD1'
    have eL2 := s58 _ _ eD2
    have hpl : pl.length = cs.length := by rw [hL1.1, List.length_map]
    have hsl := segs_len cs sl
    -- the bends
    refine ⟨_, rfl, D1, _, rfl, .inl (SqL.of eL1), (cs.length : Int), by rw [List.length_map, hpl], by omega, by omega, fun B nB => ?_⟩
    refine lc_range (lo := 0) (n := cs.length) (fun i H9 => ∃ idx : List Nat, H9 B = some (.lst (idx.map fun j : Nat => V.int (j : Int))) ∧ Idx (segs cs sl) idx i ∧ idx.length ≤ i ∧ Same H8 H9) ⟨[], upd_same, .zero _, Nat.le_refl _, same_upd nB⟩ ?_ ?_
    · intro i H9 hi ⟨idx, eB, hI, hli, s9⟩
      have e0 : (0 : Int) + (i : Int) = (i : Int) := Int.zero_add _
      obtain ⟨u, hu⟩ : ∃ u, (segs cs sl)[i]? = some u := ⟨(segs cs sl)[i]'(by omega), List.getElem?_eq_getElem _⟩
      refine ⟨rfl, _, rfl, rfl, _, rfl, ?_⟩
      cases i with
      | zero =>
        refine iteT ⟨_, rfl, _, eB, small1000 (by rw [List.length_map]; omega), idx ++ [0], ?_, ?_, by rw [List.length_append, List.length_singleton]; omega, same_mut s9 nB⟩
        · rw [upd_same, List.map_append]; rfl
        · have : idx = [] := List.eq_nil_of_length_eq_zero (by omega)
          rw [this]
          exact .first hu
      | succ i =>
        rw [decide_eq_false (fun z => by injection z with z; omega)]
        refine iteF ?_
        obtain ⟨v, hv⟩ : ∃ v, (segs cs sl)[i]? = some v := ⟨(segs cs sl)[i]'(by omega), List.getElem?_eq_getElem _⟩
        have e1' : (0 : Int) + ((i + 1 : Nat) : Int) - 1 = (i : Int) := by omega
        have hR9 := hR4.on s9
        obtain ⟨qu, au, _, ru⟩ := hR9.at (i := i + 1) (x := u.r) (by unfold rs; rw [List.getElem?_map, hu]; rfl)
        obtain ⟨qv, av, _, rv⟩ := hR9.at (i := i) (x := v.r) (by unfold rs; rw [List.getElem?_map, hv]; rfl)
        refine ⟨_, rfl, _, rfl, R, _, _, _, rfl, rfl, SqL.of (s9 _ _ eR), by rw [e0]; exact au, ?_⟩
        refine ⟨_, rfl, _, rfl, _, _, rfl, rfl, R, _, _, _, rfl, rfl, SqL.of (s9 _ _ eR), by rw [e1']; exact av, ?_⟩
        refine oo_of ru rv ⟨qu, qv, u.r, v.r, _, _, rfl, ru, rv, _, rfl, _, rfl, ?_⟩
        have st := hI.step hv hu
        by_cases e : u.r = v.r
        · rw [decide_eq_true e]
          rw [if_pos e] at st
          exact iteF ⟨idx, eB, st, by omega, s9⟩
        · rw [decide_eq_false e]
          rw [if_neg e] at st
          refine iteT ⟨_, rfl, _, eB, small1000 (by rw [List.length_map]; omega), idx ++ [i + 1], ?_, st, by rw [List.length_append, List.length_singleton]; omega, same_mut s9 nB⟩
          rw [upd_same, List.map_append, e0]
          rfl
    rintro H9 ⟨idx, eB, hI, hli, s9⟩
    have hI' : idx.map (fun j => (segs cs sl)[j]?) = (bends (segs cs sl)).map some := by
      have := hI
      unfold Idx at this
      rw [List.take_of_length_le (by omega)] at this
      exact this
    have hbt : (bends (segs cs sl)).take (bends (segs cs sl)).length = bends (segs cs sl) := List.take_length
    have hlb := hI.len
    rw [List.take_of_length_le (by omega)] at hlb
    have t9 := t8.trans s9
    have hp9 := t9 _ _ hp
    have no9 : NoR H9 p := .of hp9 rfl
    have kp0 : KP p H9 H9 := .refl p H9
    have nB9 : B ≠ p := fun e => by rw [e, hp9] at eB; cases eB
    have eL1 := s9 _ _ eL1
    have eL2 := s9 _ _ eL2
    have eL3 := s9 _ _ eR
    have hL1 := hL1.on s9
    have hL2 := hL2.on s9
    have hL3 := hR4.on s9
    have nL1 : D1 ≠ p := fun e => by rw [e, hp9] at eL1; cases eL1
    have nL2 : D2 ≠ p := fun e => by rw [e, hp9] at eL2; cases eL2
    have nL3 : R ≠ p := fun e => by rw [e, hp9] at eL3; cases eL3
    refine ⟨_, rfl, B, rfl, ⟨_, SqL.of (kp0 _ _ eB nB9)⟩, fun D31 nD31 => ?_⟩
    refine lc_list (K := K) (a := B) (xs := idx.map fun j : Nat => V.int (j : Int)) (fun i H' => ∃ ps : List Addr, H' D31 = some (.lst (ps.map V.ref)) ∧ RVs T.f_Ratio H' ps (((bends (segs cs sl)).take i).map Seg.x) (4 * n + 2) ∧ Same H9 H') ⟨[], upd_same, .nil, same_upd nD31⟩ (fun i H' _ ⟨_, _, _, sm⟩ => SqL.of (sm _ _ (kp0 _ _ eB nB9))) ?_ ?_
    · intro i x H' hi ⟨ps, eD, hR, sm⟩
      rw [List.getElem?_map] at hi
      cases hj : idx[i]? with
      | none => rw [hj] at hi; cases hi
      | some j =>
        rw [hj] at hi
        obtain rfl := Option.some.inj hi
        obtain ⟨sg, h1, h2⟩ := hI.at hj
        rw [List.take_of_length_le (by omega)] at h2
        obtain ⟨pj, aj, _, rj⟩ := ((hL1.kp no9 kp0).on sm).at (i := j) (x := sg.x) (by rw [← segs_x cs sl, List.getElem?_map, h1]; rfl)
        refine ⟨rfl, _, rfl, _, rfl, D1, _, _, _, rfl, rfl, SqL.of (sm _ _ (kp0 _ _ eL1 nL1)), aj, ps.map V.ref, eD, small1000 (by rw [List.length_map, hR.1, List.length_map, List.length_take]; omega), ps ++ [pj], ?_, ?_, same_mut sm nD31⟩
        · rw [upd_same, List.map_append]; rfl
        · have h3 : ((bends (segs cs sl)).take (i + 1)).map Seg.x = ((bends (segs cs sl)).take i).map Seg.x ++ [sg.x] := by
            rw [take_more h2, List.map_append]; rfl
          rw [h3]
          exact (hR.snoc (rj.mono (by omega))).put eD
    rintro H31 ⟨p31, eD31, hR31, s31⟩
    rw [List.take_of_length_le (by rw [List.length_map]; omega)] at hR31
    refine ⟨D31, _, rfl, .inl ⟨SqL.of eD31, fun A31 nA31 => ?_⟩⟩
    have u31 := same_upd (o := .tup (p31.map V.ref)) nA31
    have hq31 := u31 _ _ (s31 _ _ hp9)
    have hn31 : A31 ≠ p := fun e => by rw [e] at nA31; rw [s31 _ _ hp9] at nA31; cases nA31
    have hg31 : upd H31 A31 (.tup (p31.map V.ref)) A31 = some (.tup (p31.map V.ref)) := upd_same
    have hS31 := hR31.on u31
    have kpa31 : KP p H9 (upd (upd H31 A31 (.tup (p31.map V.ref))) p (.ins T.f_Line dx (lf1 A31))) := ((KP.refl p H9).same (s31.trans u31)).trans .put
    have hT31 := hS31.kp (.of hq31 rfl) (.put (o := .ins T.f_Line dx (lf1 A31)))
    have hg'31 : upd (upd H31 A31 (.tup (p31.map V.ref))) p (.ins T.f_Line dx (lf1 A31)) A31 = some (.tup (p31.map V.ref)) := by rw [upd_ne hn31]; exact hg31
    have hp31 : upd (upd H31 A31 (.tup (p31.map V.ref))) p (.ins T.f_Line dx (lf1 A31)) p = some (.ins T.f_Line dx (lf1 A31)) := upd_same
    refine ⟨_, rfl, p, T.f_Line, dx, _, rfl, hq31, T.cl_Line, T.na_Line_loads, by decide, ?_⟩
    rw [put1]
    revert kpa31 hT31 hg'31 hp31
    generalize upd (upd H31 A31 (.tup (p31.map V.ref))) p (.ins T.f_Line dx (lf1 A31)) = G31
    intro kpa31 hT31 hg'31 hp31
    have kp1 := kp0.trans kpa31
    refine ⟨_, rfl, B, rfl, ⟨_, SqL.of (kp1 _ _ eB nB9)⟩, fun D32 nD32 => ?_⟩
    refine lc_list (K := K) (a := B) (xs := idx.map fun j : Nat => V.int (j : Int)) (fun i H' => ∃ ps : List Addr, H' D32 = some (.lst (ps.map V.ref)) ∧ RVs T.f_Ratio H' ps (((bends (segs cs sl)).take i).map Seg.t) (4 * n + 2) ∧ Same G31 H') ⟨[], upd_same, .nil, same_upd nD32⟩ (fun i H' _ ⟨_, _, _, sm⟩ => SqL.of (sm _ _ (kp1 _ _ eB nB9))) ?_ ?_
    · intro i x H' hi ⟨ps, eD, hR, sm⟩
      rw [List.getElem?_map] at hi
      cases hj : idx[i]? with
      | none => rw [hj] at hi; cases hi
      | some j =>
        rw [hj] at hi
        obtain rfl := Option.some.inj hi
        obtain ⟨sg, h1, h2⟩ := hI.at hj
        rw [List.take_of_length_le (by omega)] at h2
        obtain ⟨pj, aj, _, rj⟩ := ((hL2.kp no9 kp1).on sm).at (i := j) (x := sg.t) (by rw [← segs_t cs sl, List.getElem?_map, h1]; rfl)
        refine ⟨rfl, _, rfl, _, rfl, D2, _, _, _, rfl, rfl, SqL.of (sm _ _ (kp1 _ _ eL2 nL2)), aj, ps.map V.ref, eD, small1000 (by rw [List.length_map, hR.1, List.length_map, List.length_take]; omega), ps ++ [pj], ?_, ?_, same_mut sm nD32⟩
        · rw [upd_same, List.map_append]; rfl
        · have h3 : ((bends (segs cs sl)).take (i + 1)).map Seg.t = ((bends (segs cs sl)).take i).map Seg.t ++ [sg.t] := by
            rw [take_more h2, List.map_append]; rfl
          rw [h3]
          exact (hR.snoc (rj.mono (by omega))).put eD
    rintro H32 ⟨p32, eD32, hR32, s32⟩
    rw [List.take_of_length_le (by rw [List.length_map]; omega)] at hR32
    refine ⟨D32, _, rfl, .inl ⟨SqL.of eD32, fun A32 nA32 => ?_⟩⟩
    have u32 := same_upd (o := .tup (p32.map V.ref)) nA32
    have hq32 := u32 _ _ (s32 _ _ hp31)
    have hn32 : A32 ≠ p := fun e => by rw [e] at nA32; rw [s32 _ _ hp31] at nA32; cases nA32
    have hg32 : upd H32 A32 (.tup (p32.map V.ref)) A32 = some (.tup (p32.map V.ref)) := upd_same
    have hS32 := hR32.on u32
    have kpa32 : KP p G31 (upd (upd H32 A32 (.tup (p32.map V.ref))) p (.ins T.f_Line dx (lf2 A31 A32))) := ((KP.refl p G31).same (s32.trans u32)).trans .put
    have hT32 := hS32.kp (.of hq32 (ntop1 _)) (.put (o := .ins T.f_Line dx (lf2 A31 A32)))
    have hg'32 : upd (upd H32 A32 (.tup (p32.map V.ref))) p (.ins T.f_Line dx (lf2 A31 A32)) A32 = some (.tup (p32.map V.ref)) := by rw [upd_ne hn32]; exact hg32
    have hp32 : upd (upd H32 A32 (.tup (p32.map V.ref))) p (.ins T.f_Line dx (lf2 A31 A32)) p = some (.ins T.f_Line dx (lf2 A31 A32)) := upd_same
    refine ⟨_, rfl, p, T.f_Line, dx, _, rfl, hq32, T.cl_Line, T.na_Line_times, (show (1 : Nat) < 1000 by decide), ?_⟩
    rw [put2]
    revert kpa32 hT32 hg'32 hp32
    generalize upd (upd H32 A32 (.tup (p32.map V.ref))) p (.ins T.f_Line dx (lf2 A31 A32)) = G32
    intro kpa32 hT32 hg'32 hp32
    have kp2 := kp1.trans kpa32
    refine ⟨_, rfl, B, rfl, ⟨_, SqL.of (kp2 _ _ eB nB9)⟩, fun D33 nD33 => ?_⟩
    refine lc_list (K := K) (a := B) (xs := idx.map fun j : Nat => V.int (j : Int)) (fun i H' => ∃ ps : List Addr, H' D33 = some (.lst (ps.map V.ref)) ∧ RVs T.f_Ratio H' ps (((bends (segs cs sl)).take i).map Seg.r) (4 * n + 2) ∧ Same G32 H') ⟨[], upd_same, .nil, same_upd nD33⟩ (fun i H' _ ⟨_, _, _, sm⟩ => SqL.of (sm _ _ (kp2 _ _ eB nB9))) ?_ ?_
    · intro i x H' hi ⟨ps, eD, hR, sm⟩
      rw [List.getElem?_map] at hi
      cases hj : idx[i]? with
      | none => rw [hj] at hi; cases hi
      | some j =>
        rw [hj] at hi
        obtain rfl := Option.some.inj hi
        obtain ⟨sg, h1, h2⟩ := hI.at hj
        rw [List.take_of_length_le (by omega)] at h2
        obtain ⟨pj, aj, _, rj⟩ := ((hL3.kp no9 kp2).on sm).at (i := j) (x := sg.r) (by unfold rs; rw [List.getElem?_map, h1]; rfl)
        refine ⟨rfl, _, rfl, _, rfl, R, _, _, _, rfl, rfl, SqL.of (sm _ _ (kp2 _ _ eL3 nL3)), aj, ps.map V.ref, eD, small1000 (by rw [List.length_map, hR.1, List.length_map, List.length_take]; omega), ps ++ [pj], ?_, ?_, same_mut sm nD33⟩
        · rw [upd_same, List.map_append]; rfl
        · have h3 : ((bends (segs cs sl)).take (i + 1)).map Seg.r = ((bends (segs cs sl)).take i).map Seg.r ++ [sg.r] := by
            rw [take_more h2, List.map_append]; rfl
          rw [h3]
          exact (hR.snoc (rj.mono (by omega))).put eD
    rintro H33 ⟨p33, eD33, hR33, s33⟩
    rw [List.take_of_length_le (by rw [List.length_map]; omega)] at hR33
    refine ⟨D33, _, rfl, .inl ⟨SqL.of eD33, fun A33 nA33 => ?_⟩⟩
    have u33 := same_upd (o := .tup (p33.map V.ref)) nA33
    have hq33 := u33 _ _ (s33 _ _ hp32)
    have hn33 : A33 ≠ p := fun e => by rw [e] at nA33; rw [s33 _ _ hp32] at nA33; cases nA33
    have hg33 : upd H33 A33 (.tup (p33.map V.ref)) A33 = some (.tup (p33.map V.ref)) := upd_same
    have hS33 := hR33.on u33
    have kpa33 : KP p G32 (upd (upd H33 A33 (.tup (p33.map V.ref))) p (.ins T.f_Line dx (lf A31 A32 A33))) := ((KP.refl p G32).same (s33.trans u33)).trans .put
    have hT33 := hS33.kp (.of hq33 (ntop2 _ _)) (.put (o := .ins T.f_Line dx (lf A31 A32 A33)))
    have hg'33 : upd (upd H33 A33 (.tup (p33.map V.ref))) p (.ins T.f_Line dx (lf A31 A32 A33)) A33 = some (.tup (p33.map V.ref)) := by rw [upd_ne hn33]; exact hg33
    have hp33 : upd (upd H33 A33 (.tup (p33.map V.ref))) p (.ins T.f_Line dx (lf A31 A32 A33)) p = some (.ins T.f_Line dx (lf A31 A32 A33)) := upd_same
    refine ⟨_, rfl, p, T.f_Line, dx, _, rfl, hq33, T.cl_Line, T.na_Line_rises, (show (2 : Nat) < 1000 by decide), ?_⟩
    rw [put3']
    revert kpa33 hT33 hg'33 hp33
    generalize upd (upd H33 A33 (.tup (p33.map V.ref))) p (.ins T.f_Line dx (lf A31 A32 A33)) = G33
    intro kpa33 hT33 hg'33 hp33
    have kp3 := kp2.trans kpa33
    have no31 : NoR G31 p := .of hp31 (ntop1 _)
    have no32 : NoR G32 p := .of hp32 (ntop2 _ _)
    have k13 := kpa32.trans kpa33
    refine k G33 ⟨dx, A31, A32, A33, hp33, ⟨⟨p31, k13 _ _ hg'31 hn31, hT31.kp no31 k13⟩, ⟨p32, kpa33 _ _ hg'32 hn32, hT32.kp no32 kpa33⟩, ⟨p33, hg'33, hT33⟩⟩⟩ (fun a o h n => kp3 _ _ (t9 _ _ h) n)
end

/-! ### == of lines, both answers -/
section
variable {P : Program} {w : World} {K : PySem.W.Frag} {mg : Str → Option Value} {base : Heap}
theorem tyRL {C p dx : Addr} {fs : List (Str × V)} {H : Hp} (ic : C8.InsC K C) (hp : H p = some (.ins C dx fs)) : TyX K H (.ref p) (.ref C) := .base (.ins hp ic.cl ic.ha ic.hn ic.htk ic.hm)
theorem tupB_of {C : Addr} {H : Hp} {a b : Addr} {ps qs : List Addr} {xs ys : List Rat} {n m : Nat} {E : XK} {Q : VK} (ha : SqT K H a (ps.map V.ref)) (hb : SqT K H b (qs.map V.ref)) (r : RVs C H ps xs n) (r' : RVs C H qs ys m) (q : Q (.bl (decide (xs = ys))) H) : rTupB K C (spEqV C) E (.ref a) (.ref b) H Q := by
  refine ⟨a, b, _, _, fun i => decide (xs[i]? = ys[i]?), decide (xs = ys), rfl, rfl, ha, hb, fun i u v h1 h2 => ?_, ?_, q⟩
  · rw [List.getElem?_map] at h1 h2
    cases e1 : ps[i]? with
    | none => rw [e1] at h1; cases h1
    | some p =>
      cases e2 : qs[i]? with
      | none => rw [e2] at h2; cases h2
      | some q' =>
        rw [e1] at h1
        rw [e2] at h2
        have hi : i < xs.length := by rw [← r.1]; exact (List.getElem?_eq_some_iff.mp e1).1
        have hi' : i < ys.length := by rw [← r'.1]; exact (List.getElem?_eq_some_iff.mp e2).1
        have g1 : xs[i]? = some xs[i] := List.getElem?_eq_getElem hi
        have g2 : ys[i]? = some ys[i] := List.getElem?_eq_getElem hi'
        have ra := r.2 i p _ e1 g1
        have rb := r'.2 i q' _ e2 g2
        obtain ⟨dx, fs, hp, _⟩ := ra.ins
        obtain ⟨dy, gs, hq, _⟩ := rb.ins
        have ed : decide (xs[i]? = ys[i]?) = decide (xs[i] = ys[i]) := by rw [g1, g2]; exact decide_eq_decide.mpr ⟨fun e => Option.some.inj e, fun e => congrArg some e⟩
        refine ⟨p, q', dx, dy, fs, gs, (Option.some.inj h1).symm, (Option.some.inj h2).symm, hp, hq, fun e => ?_, p, q', _, _, n, m, rfl, ra, rb, congrArg V.bl ed.symm, rfl⟩
        show decide (xs[i]? = ys[i]?) = true
        rw [ed]
        subst e
        obtain ⟨t, b, ⟨dx, h1⟩, l, v, _⟩ := ra
        obtain ⟨t', b', ⟨dy, h2⟩, l', v', _⟩ := rb
        rw [h1] at h2
        injection h2 with h2
        injection h2 with _ _ h2
        have e1 : rf t b = rf t' b' := h2
        have et : (rf t b).lookup ("_top" : Str) = (rf t' b').lookup ("_top" : Str) := by rw [e1]
        have eb : (rf t b).lookup ("_bottom" : Str) = (rf t' b').lookup ("_bottom" : Str) := by rw [e1]
        rw [rf_top, rf_top] at et
        rw [rf_bottom, rf_bottom] at eb
        injection et with et
        injection et with et
        injection eb with eb
        injection eb with eb
        exact decide_eq_true (by rw [← v, ← v', et, eb])
  · rw [List.length_map, List.length_map, r.1, r'.1]
    constructor
    · intro h
      have h := of_decide_eq_true h
      exact ⟨by rw [h], fun i _ _ => decide_eq_true (by rw [h])⟩
    · rintro ⟨h1, h2⟩
      refine decide_eq_true (List.ext_getElem? fun i => ?_)
      by_cases hi : i < xs.length
      · exact of_decide_eq_true (h2 i hi (by omega))
      · rw [List.getElem?_eq_none (by omega), List.getElem?_eq_none (by omega)]
instance segDec : DecidableEq Seg := fun a b => if h : a.x = b.x ∧ a.t = b.t ∧ a.r = b.r then isTrue (by cases a; cases b; obtain ⟨h1, h2, h3⟩ := h; cases h1; cases h2; cases h3; rfl) else isFalse (fun e => h (by rw [e]; exact ⟨rfl, rfl, rfl⟩))
def spLineEqB (LC RC : Addr) : Sp := fun vs H Q _ => ∃ (p q : Addr) (l l' : List Seg) (n m : Nat), vs = [.ref p, .ref q] ∧ LineAt LC RC H p l n ∧ LineAt LC RC H q l' m ∧ Q (.bl (decide (l = l'))) H
theorem seg_ext {l l' : List Seg} (h1 : l.map Seg.x = l'.map Seg.x) (h2 : l.map Seg.t = l'.map Seg.t) (h3 : l.map Seg.r = l'.map Seg.r) : l = l' := by
  induction l generalizing l' with
  | nil =>
    cases l' with
    | nil => rfl
    | cons => cases h1
  | cons a r ih =>
    cases l' with
    | nil => cases h1
    | cons b r' =>
      injection h1 with a1 b1
      injection h2 with a2 b2
      injection h3 with a3 b3
      have e : a = b := by cases a; cases b; simp only at a1 a2 a3; rw [a1, a2, a3]
      rw [e, ih b1 b2 b3]
theorem ok_lineeqB (T : Txt K mg) : FnOk P w K mg base CX0 3 T.f_Line_eq T.d_Line_eq ["self", "other"] (spLineEqB T.f_Line T.f_Ratio) := by
  have G_Ratio_eq : FnOk P w K mg base CX0 1 T.f_Ratio_eq T.d_Ratio_eq ["self", "other"] (spEqV T.f_Ratio) := okv_eq T
  refine T.F_Line_eq.ok sc_Line_eq (fun vs H Q E h => ?_) (fun cdv A outer s H vs Q E hr h => ?_)
  · obtain ⟨p, q, l, l', n, m, rfl, _⟩ := h
    rfl
  · obtain ⟨p, q, l, l', n, m, rfl, hp, hq, k⟩ := h
    refine ⟨_, (pss_cons (ps_if (pt_not (pt_val (pe_callB call_isi (by rfl) T.n_isinstance (by decide +kernel) (pa_cons (pv 1) (pa_cons (pe_glob (v := .ref T.f_Line) rfl T.m_Line rfl) pa_nil)))))
      (pss_one (ps_ret pe_bl))
      pss_nil)
    (pss_one (ps_ret (pe_and (pe_cmpR (op_tupB T.a_Ratio_eq T.i_Ratio_eq G_Ratio_eq (hr.mono (by decide)) T.b_Ratio_eq pass0) (pe_fld (pv 0) rfl) (pe_fld (pv 1) rfl) (nomark _)) (pe_and (pe_cmpR (op_tupB T.a_Ratio_eq T.i_Ratio_eq G_Ratio_eq (hr.mono (by decide)) T.b_Ratio_eq pass0) (pe_fld (pv 0) rfl) (pe_fld (pv 1) rfl) (nomark _)) (pe_one (pe_cmpR (op_tupB T.a_Ratio_eq T.i_Ratio_eq G_Ratio_eq (hr.mono (by decide)) T.b_Ratio_eq pass0) (pe_fld (pv 0) rfl) (pe_fld (pv 1) rfl) (nomark _)))))))), ?_⟩
    obtain ⟨dx, a, b, c, ep, ⟨pl, el, rl⟩, ⟨pt, et, rt⟩, ⟨pr, er, rr⟩⟩ := id hp
    obtain ⟨dx', a', b', c', ep', ⟨pl', el', rl'⟩, ⟨pt', et', rt'⟩, ⟨pr', er', rr'⟩⟩ := id hq
    refine ⟨_, rfl, .ref q, .ref T.f_Line, .ref T.f_Line, .ref T.f_Line, true, rfl, .own _, tyRL T.ic_Line ep', kit_self, true, rfl, iteF ?_⟩
    refine ⟨_, rfl, p, T.f_Line, dx, _, _, rfl, ep, T.cl_Line, T.na_Line_loads, lf_loads _ _ _, _, rfl, q, T.f_Line, dx', _, _, rfl, ep', T.cl_Line, T.na_Line_loads, lf_loads _ _ _, tupB_of (SqT.of el) (SqT.of el') rl rl' ⟨_, rfl, ite2 (fun h1 => ?_) fun h1 => ?_⟩⟩
    · have h1 := of_decide_eq_true h1
      refine ⟨_, rfl, p, T.f_Line, dx, _, _, rfl, ep, T.cl_Line, T.na_Line_times, lf_times _ _ _, _, rfl, q, T.f_Line, dx', _, _, rfl, ep', T.cl_Line, T.na_Line_times, lf_times _ _ _, tupB_of (SqT.of et) (SqT.of et') rt rt' ⟨_, rfl, ite2 (fun h2 => ?_) fun h2 => ?_⟩⟩
      · have h2 := of_decide_eq_true h2
        refine ⟨_, rfl, p, T.f_Line, dx, _, _, rfl, ep, T.cl_Line, T.na_Line_rises, lf_rises _ _ _, _, rfl, q, T.f_Line, dx', _, _, rfl, ep', T.cl_Line, T.na_Line_rises, lf_rises _ _ _, tupB_of (SqT.of er) (SqT.of er') rr rr' ?_⟩
        rw [show decide (l.map Seg.r = l'.map Seg.r) = decide (l = l') from decide_eq_decide.mpr ⟨fun h3 => seg_ext h1 h2 h3, fun e => by rw [e]⟩]
        exact k
      · rw [show decide (l = l') = false from decide_eq_false fun e => h2 (decide_eq_true (by rw [e]))] at k
        exact k
    · rw [show decide (l = l') = false from decide_eq_false fun e => h1 (decide_eq_true (by rw [e]))] at k
      exact k
end

/-! ### a line's slope -/
section
variable {P : Program} {w : World} {K : PySem.W.Frag} {mg : Str → Option Value} {base : Heap}
theorem lf_below (a b c : Addr) : (lf a b c).lookup ("below" : Str) = none := by
  have h1 : (("below" : Str) == ("_loads" : Str)) = false := by decide +kernel
  have h2 : (("below" : Str) == ("_times" : Str)) = false := by decide +kernel
  have h3 : (("below" : Str) == ("_rises" : Str)) = false := by decide +kernel
  simp [lf, List.lookup, h1, h2, h3]
def lastr (l : List Seg) : Rat := ((l.getLast?).map Seg.r).getD 0
theorem lastr_at {l : List Seg} {i : Nat} (h : i + 1 = l.length) : (l.map Seg.r)[i]? = some (lastr l) := by
  rw [List.getElem?_map]
  unfold lastr
  rw [List.getLast?_eq_getElem?, show l.length - 1 = i by omega, List.getElem?_eq_getElem (by omega)]
  rfl
def spSlope (LC RC : Addr) : Sp := fun vs H Q _ => ∃ (p : Addr) (l : List Seg) (n : Nat), vs = [.ref p] ∧ LineAt LC RC H p l n ∧ l ≠ [] ∧ ∀ q, RV RC H q (lastr l) n → Q (.ref q) H
theorem ok_slope (T : Txt K mg) : FnOk P w K mg base CX0 1 T.f_Line_slope T.d_Line_slope ["self"] (spSlope T.f_Line T.f_Ratio) := by
  refine T.F_Line_slope.ok sc_Line_slope (fun vs H Q E h => ?_) (fun cdv A outer s H vs Q E hr h => ?_)
  · obtain ⟨p, l, n, rfl, _⟩ := h
    rfl
  · obtain ⟨p, l, n, rfl, hp, hne, k⟩ := h
    refine ⟨_, (pss_one (ps_ret (pe_ix ix_tup (pe_fld (pv 0) rfl) (pe_un un_neg pe_int) (fun _ _ => rfl)))), ?_⟩
    obtain ⟨dx, a, b, c, ep, ⟨pl, el, rl⟩, ⟨pt, et, rt⟩, ⟨pr, er, rr⟩⟩ := id hp
    have hl0 : 0 < l.length := List.length_pos_iff.mpr hne
    obtain ⟨m, hm⟩ : ∃ m, m + 1 = l.length := ⟨l.length - 1, by omega⟩
    obtain ⟨q, _, eq, rq⟩ := rr.at (i := m) (lastr_at hm)
    exact ⟨_, rfl, p, T.f_Line, dx, _, _, rfl, ep, T.cl_Line, T.na_Line_rises, lf_rises _ _ _, 1, rfl, c, _, _, _, rfl, rfl, SqT.of er, atI_end (j := m) (by rw [List.getElem?_map, eq]; rfl) (by rw [List.length_map, rr.1, List.length_map]; exact hm), k q rq⟩
theorem Gd.nonneg {l : List Seg} (g : Gd l) {z : Rat} (h : z ∈ l.map Seg.x) : 0 ≤ z := by
  obtain ⟨i, hi⟩ := List.mem_iff_getElem?.mp h
  have hl0 : 0 < l.length := List.length_pos_iff.mpr g.ne
  have h0 : l[0]? = some l[0] := List.getElem?_eq_getElem hl0
  have e0 := g.h0 _ h0
  have e1 : (l.map Seg.x)[0]? = some 0 := by rw [List.getElem?_map, h0, ← e0]; rfl
  by_cases e : i = 0
  · subst e
    rw [e1] at hi
    rw [← Option.some.inj hi]
    exact Rat.le_refl
  · have := pw_lt g.pw e1 hi (by omega)
    grind
/-- nowhere below -/
def Cov (l l' : List Seg) : Prop := lastr l' ≤ lastr l ∧ ∀ z, (z ∈ l.map Seg.x ∨ z ∈ l'.map Seg.x) → ev l' z ≤ ev l z
end

/-! ### pieces: what is kept, one form only, comparing -/
section
theorem at_eq (s : Seg) (z : Rat) : s.at z = s.t + s.r * (z - s.x) := rfl
theorem chn_skip {s u : Seg} {r : List Seg} (h : Chn (s :: u :: r)) (e : u.r = s.r) : Chn (s :: r) := by
  cases r with
  | nil => trivial
  | cons v r =>
    obtain ⟨h1, h2, h3, h4, h5⟩ := h
    refine ⟨by grind, ?_, h5⟩
    rw [h4]
    exact at_same h2 e v.x
theorem chn_keep : ∀ (r : List Seg) (s : Seg), Chn (s :: r) → Chn (s :: keep s.r r)
  | [], _, _ => trivial
  | u :: r, s, h => by
    show Chn (s :: if u.r = s.r then keep u.r r else u :: keep u.r r)
    by_cases e : u.r = s.r
    · rw [if_pos e, e]
      exact chn_keep r s (chn_skip h e)
    · rw [if_neg e]
      exact ⟨h.1, h.2.1, chn_keep r u h.2.2⟩
theorem chn_bends {l : List Seg} (h : Chn l) : Chn (bends l) := by
  cases l with
  | nil => trivial
  | cons s r => exact chn_keep r s h
/-- no two neighbours rise alike -/
def Can : List Seg → Prop
  | [] => True
  | [_] => True
  | s :: u :: r => u.r ≠ s.r ∧ Can (u :: r)
theorem can_keep : ∀ (r : List Seg) (p : Rat), (∀ u, (keep p r).head? = some u → u.r ≠ p) ∧ Can (keep p r)
  | [], p => ⟨(fun u h => by cases h), trivial⟩
  | s :: r, p => by
    obtain ⟨h1, h2⟩ := can_keep r s.r
    show (∀ u, (if s.r = p then keep s.r r else s :: keep s.r r).head? = some u → u.r ≠ p) ∧ Can (if s.r = p then keep s.r r else s :: keep s.r r)
    by_cases e : s.r = p
    · rw [if_pos e]
      exact ⟨fun u h => by have := h1 u h; rw [e] at this; exact this, h2⟩
    · rw [if_neg e]
      refine ⟨fun u h => by obtain rfl := Option.some.inj h; exact e, ?_⟩
      generalize hk : keep s.r r = k at h1 h2
      cases k with
      | nil => trivial
      | cons v k => exact ⟨h1 v rfl, h2⟩
theorem can_bends (l : List Seg) : Can (bends l) := by
  cases l with
  | nil => trivial
  | cons s r =>
    obtain ⟨h1, h2⟩ := can_keep r s.r
    show Can (s :: keep s.r r)
    generalize hk : keep s.r r = k at h1 h2
    cases k with
    | nil => trivial
    | cons v k => exact ⟨h1 v rfl, h2⟩
/-- where the first piece ends, or a place behind it -/
def nxt (s : Seg) : List Seg → Rat
  | [] => s.x + 1
  | u :: _ => u.x
theorem nxt_gt {s : Seg} {r : List Seg} (h : Chn (s :: r)) : s.x < nxt s r := by
  cases r with
  | nil => show s.x < s.x + 1; grind
  | cons u r => exact h.1
theorem ev_hd {s : Seg} {r : List Seg} {z : Rat} (hz : z < nxt s r) : ev (s :: r) z = s.at z := by
  cases r with
  | nil => rfl
  | cons u r => exact if_pos hz
theorem ev_tl {s u : Seg} {r : List Seg} {z : Rat} (hz : u.x ≤ z) : ev (s :: u :: r) z = ev (u :: r) z := if_neg (Rat.not_lt.mpr hz)
theorem line_eq {x t r r' z : Rat} (hz : x < z) (h : t + r * (z - x) = t + r' * (z - x)) : r = r' := by
  have h1 : (r - r') * (z - x) = 0 := by grind
  have h2 : z - x ≠ 0 := by grind
  grind
theorem mid_lt {a b : Rat} (h : a < b) : a < (a + b) / 2 ∧ (a + b) / 2 < b := by
  constructor <;> grind
theorem min_two {x a b : Rat} (h1 : x < a) (h2 : x < b) : ∃ z, x < z ∧ z < a ∧ z < b := by
  by_cases h : a ≤ b
  · have := mid_lt h1
    exact ⟨_, this.1, this.2, by grind⟩
  · have := mid_lt h2
    exact ⟨_, this.1, by grind, this.2⟩
theorem uniq_head {s s' : Seg} {r q : List Seg} (h : Chn (s :: r)) (h' : Chn (s' :: q)) (hx : s.x = s'.x) (he : ∀ z, s.x ≤ z → ev (s :: r) z = ev (s' :: q) z) : s = s' := by
  have n1 := nxt_gt h
  have n2 := nxt_gt h'
  have h0 := he s.x Rat.le_refl
  rw [ev_hd n1, ev_hd (by rw [hx]; exact n2), at_eq, at_eq] at h0
  have ht : s.t = s'.t := by rw [hx] at h0; grind
  obtain ⟨z, z1, z2, z3⟩ := min_two n1 (by rw [hx]; exact n2)
  have h1 := he z (by grind)
  rw [ev_hd z2, ev_hd z3, at_eq, at_eq, ht, ← hx] at h1
  have hr := line_eq z1 h1
  cases s
  cases s'
  simp only at hx ht hr
  rw [hx, ht, hr]
/-- a piece begins where the other goes on: the two differ -/
theorem uniq_step {s u : Seg} {r q : List Seg} {N : Rat} (h : Chn (s :: u :: r)) (hc : u.r ≠ s.r) (hN : u.x < N) (hq : ∀ z, s.x ≤ z → z < N → ev (s :: q) z = s.at z) (he : ∀ z, s.x ≤ z → ev (s :: u :: r) z = ev (s :: q) z) : False := by
  obtain ⟨z, z1, z2, z3⟩ := min_two (nxt_gt h.2.2) hN
  have hz : s.x ≤ z := by have := h.1; grind
  have h1 := he z hz
  rw [ev_tl (by grind), ev_hd z2, hq z hz z3, at_eq, h.2.1, at_eq, at_eq] at h1
  have h2 : (u.r - s.r) * (z - u.x) = 0 := by grind
  have h3 : z - u.x ≠ 0 := by grind
  grind
theorem uniq : ∀ (r q : List Seg) (s s' : Seg), Chn (s :: r) → Chn (s' :: q) → Can (s :: r) → Can (s' :: q) → s.x = s'.x → (∀ z, s.x ≤ z → ev (s :: r) z = ev (s' :: q) z) → s :: r = s' :: q := by
  intro r
  induction r with
  | nil =>
    intro q s s' h h' c c' hx he
    have es : s = s' := uniq_head h h' hx he
    subst es
    cases q with
    | nil => rfl
    | cons u q => exact (uniq_step (N := u.x + 1) h' c'.1 (by grind) (fun z _ _ => rfl) (fun z hz => (he z hz).symm)).elim
  | cons u r ih =>
    intro q s s' h h' c c' hx he
    have es : s = s' := uniq_head h h' hx he
    subst es
    cases q with
    | nil => exact (uniq_step (N := u.x + 1) h c.1 (by grind) (fun z _ _ => rfl) he).elim
    | cons v q =>
      by_cases h1 : u.x < v.x
      · exact (uniq_step (q := v :: q) h c.1 h1 (fun z _ hz => if_pos hz) he).elim
      · by_cases h2 : v.x < u.x
        · exact (uniq_step (q := u :: r) h' c'.1 h2 (fun z _ hz => if_pos hz) (fun z hz => (he z hz).symm)).elim
        · have e : u.x = v.x := by grind
          have hs := h.1
          rw [ih q u v h.2.2 h'.2.2 c.2 c'.2 e fun z hz => by
            have := he z (by grind)
            rw [ev_tl hz, ev_tl (by rw [← e]; exact hz)] at this
            exact this]
theorem uniq_bends {l l' : List Seg} (h : Chn l) (h' : Chn l') (n : l ≠ []) (n' : l' ≠ []) (h0 : ∀ s, l[0]? = some s → s.x = 0) (h0' : ∀ s, l'[0]? = some s → s.x = 0) (he : ∀ z, 0 ≤ z → ev l z = ev l' z) : bends l = bends l' := by
  cases l with
  | nil => exact absurd rfl n
  | cons s r =>
    cases l' with
    | nil => exact absurd rfl n'
    | cons s' q =>
      have e1 := h0 s rfl
      have e2 := h0' s' rfl
      have hb := chn_bends h
      have hb' := chn_bends h'
      have cb := can_bends (s :: r)
      have cb' := can_bends (s' :: q)
      exact uniq _ _ _ _ hb hb' cb cb' (by rw [e1, e2]) (fun z hz => by
        have z0 : 0 ≤ z := by rw [← e1]; exact hz
        have := he z z0
        rw [← ev_bends h, ← ev_bends h'] at this
        exact this)
/-- the piece at a load -/
def PieceAt (l : List Seg) (z : Rat) (s : Seg) : Prop := s ∈ l ∧ s.x ≤ z ∧ ((∃ u ∈ l, z < u.x ∧ ∀ w, s.x ≤ w → w ≤ u.x → ev l w = s.at w) ∨ ∀ w, s.x ≤ w → ev l w = s.at w ∧ s.r = lastr l)
theorem ev_at_x {s : Seg} {r : List Seg} (h : Chn (s :: r)) : ev (s :: r) s.x = s.t := by
  rw [ev_hd (nxt_gt h), at_eq]
  grind
theorem lastr_cons {s u : Seg} {r : List Seg} : lastr (s :: u :: r) = lastr (u :: r) := by
  unfold lastr
  rw [List.getLast?_cons_cons]
theorem piece : ∀ (r : List Seg) (s : Seg), Chn (s :: r) → ∀ z, s.x ≤ z → ∃ p, PieceAt (s :: r) z p
  | [], s, _, z, hz => ⟨s, List.mem_cons_self, hz, .inr fun w _ => ⟨rfl, rfl⟩⟩
  | u :: r, s, h, z, hz => by
    by_cases hu : z < u.x
    · refine ⟨s, List.mem_cons_self, hz, .inl ⟨u, List.mem_cons_of_mem _ List.mem_cons_self, hu, fun w h1 h2 => ?_⟩⟩
      by_cases e : w < u.x
      · exact ev_hd e
      · have e : w = u.x := by grind
        rw [e, ev_tl Rat.le_refl, ev_at_x h.2.2]
        exact h.2.1
    · obtain ⟨p, h1, h2, h3⟩ := piece r u h.2.2 z (Rat.not_lt.mp hu)
      have hp : u.x ≤ p.x := by
        rcases List.mem_cons.mp h1 with e | e
        · rw [e]; exact Rat.le_refl
        · have := chn_lt r u h.2.2 p e
          grind
      refine ⟨p, List.mem_cons_of_mem _ h1, h2, ?_⟩
      rcases h3 with ⟨v, hv, hz', hw⟩ | hw
      · exact .inl ⟨v, List.mem_cons_of_mem _ hv, hz', fun w w1 w2 => by rw [ev_tl (by grind)]; exact hw w w1 w2⟩
      · exact .inr fun w w1 => by rw [ev_tl (by grind), lastr_cons]; exact hw w w1
theorem two_ends {a b m M z : Rat} (h1 : 0 ≤ a + b * m) (h2 : 0 ≤ a + b * M) (hm : m ≤ z) (hM : z ≤ M) : 0 ≤ a + b * z := by
  by_cases hb : 0 ≤ b
  · have h3 := Rat.mul_nonneg hb (show 0 ≤ z - m by grind)
    grind
  · have h3 := Rat.mul_nonneg (show 0 ≤ -b by grind) (show 0 ≤ M - z by grind)
    grind
theorem one_end {a b m z : Rat} (h1 : 0 ≤ a + b * m) (hb : 0 ≤ b) (hm : m ≤ z) : 0 ≤ a + b * z := by
  have h3 := Rat.mul_nonneg hb (show 0 ≤ z - m by grind)
  grind
theorem cov_all {s s' : Seg} {r q : List Seg} (h : Chn (s :: r)) (h' : Chn (s' :: q)) (hx : s.x = s'.x) (hc : Cov (s :: r) (s' :: q)) (z : Rat) (hz : s.x ≤ z) : ev (s' :: q) z ≤ ev (s :: r) z := by
  obtain ⟨p, p1, p2, p3⟩ := piece r s h z hz
  obtain ⟨p', p1', p2', p3'⟩ := piece q s' h' z (by rw [← hx]; exact hz)
  -- the later of the two beginnings
  obtain ⟨m, hm, m1, m2, m3⟩ : ∃ m, (m ∈ (s :: r).map Seg.x ∨ m ∈ (s' :: q).map Seg.x) ∧ p.x ≤ m ∧ p'.x ≤ m ∧ m ≤ z := by
    by_cases e : p.x ≤ p'.x
    · exact ⟨p'.x, .inr (List.mem_map.mpr ⟨p', p1', rfl⟩), e, Rat.le_refl, p2'⟩
    · exact ⟨p.x, .inl (List.mem_map.mpr ⟨p, p1, rfl⟩), Rat.le_refl, by grind, p2⟩
  have lin : ∀ w, p.at w - p'.at w = ((p.t - p.r * p.x) - (p'.t - p'.r * p'.x)) + (p.r - p'.r) * w := fun w => by
    rw [at_eq, at_eq]
    grind
  have goal : (0 ≤ ((p.t - p.r * p.x) - (p'.t - p'.r * p'.x)) + (p.r - p'.r) * z) → ev (s :: r) z = p.at z → ev (s' :: q) z = p'.at z → ev (s' :: q) z ≤ ev (s :: r) z := fun g e1 e2 => by
    rw [← lin] at g
    rw [e1, e2]
    grind
  have hcm := hc.2 m hm
  rcases p3 with ⟨u, hu, zu, wu⟩ | wu
  · rcases p3' with ⟨v, hv, zv, wv⟩ | wv
    · -- both end
      have e1 := wu m m1 (by grind)
      have e2 := wv m m2 (by grind)
      rw [e1, e2] at hcm
      obtain ⟨M, hM, M1, M2, M3⟩ : ∃ M, (M ∈ (s :: r).map Seg.x ∨ M ∈ (s' :: q).map Seg.x) ∧ M ≤ u.x ∧ M ≤ v.x ∧ z < M := by
        by_cases e : u.x ≤ v.x
        · exact ⟨u.x, .inl (List.mem_map.mpr ⟨u, hu, rfl⟩), Rat.le_refl, e, zu⟩
        · exact ⟨v.x, .inr (List.mem_map.mpr ⟨v, hv, rfl⟩), by grind, Rat.le_refl, zv⟩
      have hcM := hc.2 M hM
      rw [wu M (by grind) M1, wv M (by grind) M2] at hcM
      exact goal (two_ends (m := m) (M := M) (by rw [← lin]; grind) (by rw [← lin]; grind) m3 (by grind)) (wu z p2 (by grind)) (wv z p2' (by grind))
    · have e1 := wu m m1 (by grind)
      have e2 := (wv m m2).1
      rw [e1, e2] at hcm
      have hcM := hc.2 u.x (.inl (List.mem_map.mpr ⟨u, hu, rfl⟩))
      rw [wu u.x (by grind) Rat.le_refl, (wv u.x (by grind)).1] at hcM
      exact goal (two_ends (m := m) (M := u.x) (by rw [← lin]; grind) (by rw [← lin]; grind) m3 (by grind)) (wu z p2 (by grind)) (wv z p2').1
  · rcases p3' with ⟨v, hv, zv, wv⟩ | wv
    · have e1 := (wu m m1).1
      have e2 := wv m m2 (by grind)
      rw [e1, e2] at hcm
      have hcM := hc.2 v.x (.inr (List.mem_map.mpr ⟨v, hv, rfl⟩))
      rw [(wu v.x (by grind)).1, wv v.x (by grind) Rat.le_refl] at hcM
      exact goal (two_ends (m := m) (M := v.x) (by rw [← lin]; grind) (by rw [← lin]; grind) m3 (by grind)) (wu z p2).1 (wv z p2' (by grind))
    · obtain ⟨e1, f1⟩ := wu m m1
      obtain ⟨e2, f2⟩ := wv m m2
      rw [e1, e2] at hcm
      have hr := hc.1
      rw [← f1, ← f2] at hr
      exact goal (one_end (m := m) (by rw [← lin]; grind) (by grind) m3) (wu z p2).1 (wv z p2').1
end

/-! ### the sum of two lines -/
section
/-- what a line promises -/
structure Nice (l : List Seg) : Prop where
  gd : Gd l
  chn : Chn l
  up : ∀ s ∈ l, 0 ≤ s.r
  t0 : ∀ s, l[0]? = some s → 0 ≤ s.t
theorem ev_mono : ∀ (r : List Seg) (s : Seg), Chn (s :: r) → (∀ u ∈ s :: r, 0 ≤ u.r) → ∀ z w, s.x ≤ z → z ≤ w → ev (s :: r) z ≤ ev (s :: r) w
  | [], s, _, hr, z, w, _, hw => by
    show s.at z ≤ s.at w
    have h1 := hr s List.mem_cons_self
    have h2 := Rat.mul_nonneg h1 (show 0 ≤ w - z by grind)
    rw [at_eq, at_eq]
    grind
  | u :: r, s, h, hr, z, w, hz, hw => by
    have h1 := hr s List.mem_cons_self
    by_cases e : w < u.x
    · rw [ev_hd (show z < nxt s (u :: r) by show z < u.x; grind), ev_hd (show w < nxt s (u :: r) from e), at_eq, at_eq]
      have h2 := Rat.mul_nonneg h1 (show 0 ≤ w - z by grind)
      grind
    · have hw' := Rat.not_lt.mp e
      have ih := ev_mono r u h.2.2 fun v hv => hr v (List.mem_cons_of_mem _ hv)
      rw [ev_tl hw']
      by_cases e2 : z < u.x
      · rw [ev_hd (show z < nxt s (u :: r) from e2)]
        have h3 := ih u.x w Rat.le_refl hw'
        rw [ev_at_x h.2.2, h.2.1] at h3
        have h2 := Rat.mul_nonneg h1 (show 0 ≤ u.x - z by grind)
        rw [at_eq] at h3 ⊢
        grind
      · rw [ev_tl (Rat.not_lt.mp e2)]
        exact ih z w (Rat.not_lt.mp e2) hw
theorem Nice.cons {l : List Seg} (h : Nice l) : ∃ s r, l = s :: r ∧ s.x = 0 ∧ 0 ≤ s.t := by
  cases l with
  | nil => exact absurd rfl h.gd.ne
  | cons s r => exact ⟨s, r, rfl, h.gd.h0 s rfl, h.t0 s rfl⟩
theorem Nice.mono {l : List Seg} (h : Nice l) {z w : Rat} (hz : 0 ≤ z) (hw : z ≤ w) : ev l z ≤ ev l w := by
  obtain ⟨s, r, rfl, h0, _⟩ := h.cons
  exact ev_mono r s h.chn h.up z w (by rw [h0]; exact hz) hw
theorem Nice.nonneg {l : List Seg} (h : Nice l) {z : Rat} (hz : 0 ≤ z) : 0 ≤ ev l z := by
  obtain ⟨s, r, e, h0, h1⟩ := h.cons
  have h2 := h.mono (Rat.le_refl (a := 0)) hz
  rw [e] at h2 ⊢
  have h3 := ev_at_x (by rw [← e]; exact h.chn : Chn (s :: r))
  rw [h0] at h3
  rw [h3] at h2
  grind
theorem Nice.piece {l : List Seg} (h : Nice l) {z : Rat} (hz : 0 ≤ z) : ∃ p, PieceAt l z p := by
  obtain ⟨s, r, rfl, h0, _⟩ := h.cons
  exact My.piece r s h.chn z (by rw [h0]; exact hz)
end

section
variable {P : Program} {w : World} {K : PySem.W.Frag} {mg : Str → Option Value} {base : Heap}
theorem NV.put {C : Addr} {H : Hp} {D : Addr} {xs ys : List V} {v : V} {x : Rat} {n : Nat} (hD : H D = some (.lst xs)) (r : NV C H v x n) : NV C (upd H D (.lst ys)) v x n := by
  obtain ⟨t, b, nm, h2⟩ := r
  refine ⟨t, b, ?_, h2⟩
  rcases nm with e | ⟨p, e, dx, hp⟩
  · exact .inl e
  · exact .inr ⟨p, e, dx, by rw [upd_ne (fun z => by rw [z, hD] at hp; cases hp)]; exact hp⟩
theorem PV.put {H : Hp} {D : Addr} {xs ys : List V} {q : Addr} {x : Rat} {n : Nat} (hD : H D = some (.lst xs)) (r : PV H q x n) : PV (upd H D (.lst ys)) q x n := let ⟨t, b, e, h2⟩ := r; ⟨t, b, by
  have e' : H q = some _ := e
  show upd H D (.lst ys) q = _
  rw [upd_ne (fun z => by rw [z, hD] at e'; cases e')]; exact e', h2⟩
/-- pairs of values in tuples -/
def TupsN (C : Addr) (G : Hp) (ts : List Addr) (cs : List (Rat × Rat)) (n : Nat) : Prop := ∀ (i : Nat) t d, ts[i]? = some t → cs[i]? = some d → ∃ u v, G t = some (.tup [u, v]) ∧ NV C G u d.1 n ∧ NV C G v d.2 n
theorem TupsN.on {C : Addr} {H H' : Hp} {ts : List Addr} {cs : List (Rat × Rat)} {n : Nat} (r : TupsN C H ts cs n) (s : Same H H') : TupsN C H' ts cs n := fun i t d h1 h2 => let ⟨u, v, e, a, b⟩ := r i t d h1 h2; ⟨u, v, s _ _ e, a.on s, b.on s⟩
theorem TupsN.put {C : Addr} {H : Hp} {D : Addr} {xs ys : List V} {ts : List Addr} {cs : List (Rat × Rat)} {n : Nat} (hD : H D = some (.lst xs)) (r : TupsN C H ts cs n) : TupsN C (upd H D (.lst ys)) ts cs n := fun i t d h1 h2 => by
  obtain ⟨u, v, e, a, b⟩ := r i t d h1 h2
  exact ⟨u, v, by rw [upd_ne (fun z => by rw [z, hD] at e; cases e)]; exact e, a.put hD, b.put hD⟩
theorem TupsN.snoc {C : Addr} {G : Hp} {ts : List Addr} {cs : List (Rat × Rat)} {n i : Nat} {t : Addr} {d : Rat × Rat} {u v : V} (r : TupsN C G ts cs n) (h : ts.length = i) (ci : cs[i]? = some d) (e : G t = some (.tup [u, v])) (a : NV C G u d.1 n) (b : NV C G v d.2 n) : TupsN C G (ts ++ [t]) cs n := fun j t' d' h1 h2 => by
  by_cases hj : j < ts.length
  · rw [List.getElem?_append_left hj] at h1
    exact r j t' d' h1 h2
  · have hj' := (List.getElem?_eq_some_iff.mp h1).1
    rw [List.length_append, List.length_singleton] at hj'
    have e1 : j = ts.length := by omega
    subst e1
    rw [List.getElem?_append_right (Nat.le_refl _), Nat.sub_self] at h1
    rw [h, ci] at h2
    have e2 : t = t' := Option.some.inj h1
    have e3 : d = d' := Option.some.inj h2
    rw [← e2, ← e3]
    exact ⟨u, v, e, a, b⟩
end

/-! ### the law's own line -/
section
variable {P : Program} {w : World} {K : PySem.W.Frag} {mg : Str → Option Value} {base : Heap}
/-- the law's corners -/
def CorP (H : Hp) (L : Addr) (cs : List (Rat × Rat)) (n : Nat) : Prop := ∃ qs : List Addr, H L = some (.lst (qs.map V.ref)) ∧ qs.length = cs.length ∧ ∀ (i : Nat) t d, qs[i]? = some t → cs[i]? = some d → ∃ u v, H t = some (.tup [.ref u, .ref v]) ∧ PV H u d.1 n ∧ PV H v d.2 n
theorem CorP.on {H H' : Hp} {L : Addr} {cs : List (Rat × Rat)} {n : Nat} (r : CorP H L cs n) (s : Same H H') : CorP H' L cs n := by
  obtain ⟨qs, h1, h2, h3⟩ := r
  refine ⟨qs, s _ _ h1, h2, fun i t d ht hd => ?_⟩
  obtain ⟨u, v, e, a, b⟩ := h3 i t d ht hd
  exact ⟨u, v, s _ _ e, a.on s, b.on s⟩
theorem CorP.at {H : Hp} {L : Addr} {cs : List (Rat × Rat)} {n : Nat} (r : CorP H L cs n) {i : Nat} {d : Rat × Rat} (hd : cs[i]? = some d) : ∃ xs t u v, SqL K H L xs ∧ xs.length = cs.length ∧ atI xs (i : Int) = some (.ref t) ∧ SqT K H t [.ref u, .ref v] ∧ PV H u d.1 n ∧ PV H v d.2 n := by
  obtain ⟨qs, h1, h2, h3⟩ := r
  have hi := (List.getElem?_eq_some_iff.mp hd).1
  have ht : qs[i]? = some (qs[i]'(by omega)) := List.getElem?_eq_getElem (by omega)
  obtain ⟨u, v, e, a, b⟩ := h3 i _ _ ht hd
  exact ⟨_, _, u, v, SqL.of h1, by rw [List.length_map, h2], atI_nat (by rw [List.getElem?_map, ht]; rfl), SqT.of e, a, b⟩
def spLOverV : Sp := fun vs H Q _ => ∃ (q q' : Addr) (x x' : Rat) (n n' : Nat), vs = [.ref q, .ref q'] ∧ PV H q x n ∧ PV H q' x' n' ∧ n ≤ 3900 ∧ n' ≤ 3900 ∧ x' ≠ 0 ∧ ResPV H (x / x') (n + n') Q
theorem ok_lover (T : Txt K mg) : FnOk P w K mg base CX0 3 T.f_over T.d_over ["_law_one", "_law_two"] spLOverV := by
  have G_low : FnOk P w K mg base CX0 1 T.f_low T.d_low ["_law_up", "_law_down"] spLowV := okv_low T
  have G_times : FnOk P w K mg base CX0 2 T.f_times T.d_times ["_law_one", "_law_two"] spTimesV := okv_times T
  refine T.F_over.ok sc_over (fun vs H Q E h => ?_) (fun cdv A outer s H vs Q E hr h => ?_)
  · obtain ⟨q, q', x, x', n, n', rfl, _⟩ := h
    rfl
  · obtain ⟨q, q', x, x', n, n', rfl, hq, hq', hn, hn', h0, k⟩ := h
    refine ⟨_, (pss_one (ps_ret (pe_call G_times (hr.mono (by decide)) rfl T.m_times T.F_times.kp T.b_times .nil pass0 (pa_cons (pv 0) (pa_cons (pe_call G_low (hr.mono (by decide)) rfl T.m_low T.F_low.kp T.b_low .nil pass0 (pa_cons (pe_ix ix_tup (pv 1) pe_int (fun _ _ => rfl)) (pa_cons (pe_ix ix_tup (pv 1) pe_int (fun _ _ => rfl)) pa_nil))) pa_nil))))), ?_⟩
    obtain ⟨t, b, e, lo, ev, sz⟩ := id hq'
    have ht : t ≠ 0 := fun z => h0 (by rw [← ev]; exact (vq_zero lo.ne).mpr z)
    refine ⟨_, rfl, _, rfl, q', _, 1, .int b, rfl, rfl, SqT.of e, rfl, _, rfl, q', _, 0, .int t, rfl, rfl, SqT.of e, rfl, b, t, n', rfl, ht, ⟨sz.2, sz.1⟩, by omega, fun o H1 no s1 po => ?_⟩
    refine ⟨q, o, x, vq b t, n, n', rfl, hq.on s1, po, hn, hn', fun o2 H2 no2 s2 po2 => k o2 H2 (s1.free no2) (s1.trans s2) ?_⟩
    have e2 : x * vq b t = x / x' := by
      rw [← ev]
      unfold vq
      have h1 := rat_ne lo.ne
      have h2 := rat_ne ht
      grind
    rw [← e2]
    exact po2
def spSteep (K : PySem.W.Frag) : Sp := fun vs H Q _ => ∃ (L r : Addr) (cs : List (Rat × Rat)) (s : Rat) (k n : Nat) (sg : Seg), vs = [.ref L, .ref r, .int (k : Int)] ∧ CorP H L cs n ∧ PV H r s n ∧ Up cs ∧ (segs cs s)[k]? = some sg ∧ n ≤ 900 ∧ cs.length ≤ 900 ∧ ∀ q H', Same H H' → PV H' q sg.r (4 * n + 2) → Q (.ref q) H'
theorem ok_steep (T : Txt K mg) : FnOk P w K mg base CX0 4 T.f_steep T.d_steep ["_law_bends", "_law_rise", "_law_k"] (spSteep K) := by
  have G_over : FnOk P w K mg base CX0 3 T.f_over T.d_over ["_law_one", "_law_two"] spLOverV := ok_lover T
  have G_minus : FnOk P w K mg base CX0 3 T.f_minus T.d_minus ["_law_one", "_law_two"] spMinusV := okv_minus T
  refine T.F_steep.ok sc_steep (fun vs H Q E h => ?_) (fun cdv A outer s H vs Q E hr h => ?_)
  · obtain ⟨L, r, cs, s, k, n, sg, rfl, _⟩ := h
    rfl
  · obtain ⟨L, r, cs, s, j, n, sg, rfl, hc, hr', hup, hsg, hn, hl, k⟩ := h
    refine ⟨_, (pss_cons (ps_if (pt_cmpR op_eq (pe_op op_add (pv 2) pe_int) (pe_callB call_len_seq (by rfl) T.n_len (by decide +kernel) (pa_cons (pv 0) pa_nil)) (nomark _))
      (pss_one (ps_ret (pv 1)))
      pss_nil)
    (pss_one (ps_ret (pe_call G_over (hr.mono (by decide)) rfl T.m_over T.F_over.kp T.b_over .nil pass0 (pa_cons (pe_call G_minus (hr.mono (by decide)) rfl T.m_minus T.F_minus.kp T.b_minus .nil pass0 (pa_cons (pe_ix ix_tup (pe_ix ix_list (pv 0) (pe_op op_add (pv 2) pe_int) (fun _ _ => rfl)) pe_int (fun _ _ => rfl)) (pa_cons (pe_ix ix_tup (pe_ix ix_list (pv 0) (pv 2) (fun _ _ => rfl)) pe_int (fun _ _ => rfl)) pa_nil))) (pa_cons (pe_call G_minus (hr.mono (by decide)) rfl T.m_minus T.F_minus.kp T.b_minus .nil pass0 (pa_cons (pe_ix ix_tup (pe_ix ix_list (pv 0) (pe_op op_add (pv 2) pe_int) (fun _ _ => rfl)) pe_int (fun _ _ => rfl)) (pa_cons (pe_ix ix_tup (pe_ix ix_list (pv 0) (pv 2) (fun _ _ => rfl)) pe_int (fun _ _ => rfl)) pa_nil))) pa_nil)))))), ?_⟩
    have hj : j < cs.length := by
      have := (List.getElem?_eq_some_iff.mp hsg).1
      rw [segs_len] at this
      exact this
    have c1 : cs[j]? = some cs[j] := List.getElem?_eq_getElem hj
    obtain ⟨xs, t1, u1, v1, hL, hxl, a1, ht1, pu1, pv1⟩ := CorP.at (K := K) hc c1
    refine ⟨_, rfl, _, _, rfl, rfl, _, rfl, L, xs, rfl, .inl hL, rfl, _, rfl, ite2 (fun he => ?_) fun he => ?_⟩
    · have he' : j + 1 = cs.length := by
        have e := of_decide_eq_true he
        injection e with e
        omega
      have e := segs_last cs s j he'
      rw [hsg] at e
      have e' : sg.r = s := Option.some.inj e
      refine ⟨_, rfl, k r H (Same.refl H) ?_⟩
      rw [e']
      exact hr'.mono (by omega)
    · have hj1 : j + 1 < cs.length := by
        have e : ¬ j + 1 = cs.length := fun e => he (decide_eq_true (congrArg V.int (by omega)))
        omega
      have c2 : cs[j + 1]? = some cs[j + 1] := List.getElem?_eq_getElem hj1
      have e := segs_r cs s j _ _ c1 c2
      rw [hsg] at e
      have e' : sg.r = (cs[j + 1].2 - cs[j].2) / (cs[j + 1].1 - cs[j].1) := Option.some.inj e
      obtain ⟨xs2, t2, u2, v2, hL2, hxl2, a2, ht2, pu2, pv2⟩ := CorP.at (K := K) hc c2
      have ej : (j : Int) + 1 = ((j + 1 : Nat) : Int) := by omega
      refine ⟨_, rfl, _, rfl, _, _, rfl, rfl, L, _, _, _, rfl, rfl, hL2, by rw [ej]; exact a2, t2, _, 1, .ref v2, rfl, rfl, ht2, rfl, ?_⟩
      refine ⟨_, rfl, _, rfl, L, _, _, _, rfl, rfl, hL, a1, t1, _, 1, .ref v1, rfl, rfl, ht1, rfl, ?_⟩
      refine ⟨v2, v1, _, _, n, n, rfl, pv2, pv1, by omega, by omega, fun o1 H1 n1 s1 w1 => ?_⟩
      have hlt := (hup j _ _ c1 c2).1
      refine ⟨_, rfl, _, rfl, _, _, rfl, rfl, L, _, _, _, rfl, rfl, s1.seq hL2, by rw [ej]; exact a2, t2, _, 0, .ref u2, rfl, rfl, ht2.ext s1, rfl, ?_⟩
      refine ⟨_, rfl, _, rfl, L, _, _, _, rfl, rfl, s1.seq hL, a1, t1, _, 0, .ref u1, rfl, rfl, ht1.ext s1, rfl, ?_⟩
      refine ⟨u2, u1, _, _, n, n, rfl, pu2.on s1, pu1.on s1, by omega, by omega, fun o2 H2 n2 s2 w2 => ?_⟩
      refine ⟨o1, o2, _, _, n + n + 1, n + n + 1, rfl, w1.on s2, w2, by omega, by omega, by grind, fun o3 H3 n3 s3 w3 => k o3 H3 ((s1.trans s2).trans s3) ?_⟩
      rw [e']
      exact w3.mono (by omega)
end

section
variable {P : Program} {w : World} {K : PySem.W.Frag} {mg : Str → Option Value} {base : Heap}
/-- what stands behind and is no list is known from then on -/
theorem DSt.grow {G H : Hp} {s : Addr} {m : Nat} (d : DSt G H s m) : ∃ G', DSt G' H s m ∧ Same G G' ∧ ∀ a o, H a = some o → (∀ xs, o ≠ .lst xs) → G' a = some o := by
  obtain ⟨b, c, gs, cs, n, d, hn⟩ := d
  have gl : ∀ a xs, G a = none → H a = some (.lst xs) → (match G a with | some o => some o | none => match H a with | some (.lst _) => none | x => x) = none := fun a xs e1 e2 => by rw [e1, e2]
  refine ⟨fun a => match G a with | some o => some o | none => match H a with | some (.lst _) => none | x => x, ⟨b, c, gs, cs, n, ⟨fun a o e => ?_, gl _ _ d.fs d.hs, gl _ _ d.fb d.hb, gl _ _ d.fc d.hc, d.hs, d.hb, d.hc, d.ne, d.pos⟩, hn⟩, fun a o e => ?_, fun a o e ne => ?_⟩
  · cases eg : G a with
    | some o' =>
      simp only [eg] at e
      rw [← e]
      exact d.same a _ eg
    | none =>
      simp only [eg] at e
      cases eh : H a with
      | none => rw [eh] at e; cases e
      | some o' =>
        rw [eh] at e
        cases o' <;> first | exact e | cases e
  · show (match G a with | some o => some o | none => match H a with | some (.lst _) => none | x => x) = some o
    rw [e]
  · show (match G a with | some o => some o | none => match H a with | some (.lst _) => none | x => x) = some o
    cases eg : G a with
    | some o' =>
      have := d.same a _ eg
      rw [e] at this
      exact this.symm
    | none =>
      simp only
      rw [e]
      cases o with
      | lst xs => exact absurd rfl (ne xs)
      | _ => rfl
end

/-! ### values -/
section
variable {P : Program} {w : World} {K : PySem.W.Frag} {mg : Str → Option Value} {base : Heap}
theorem PairAt.on {H H' : Hp} {q : Addr} {t b : Int} (p : PairAt H q t b) (s : Same H H') : PairAt H' q t b := s _ _ p
theorem int_eq {a b : Int} (h : decide (V.int a = V.int b) = true) : a = b := by
  have := of_decide_eq_true h
  injection this
def spValue (C : Addr) : Sp := fun vs H Q _ => ∃ (st q : Addr) (t b : Int) (G : Hp) (m : Nat), vs = [.ref st, .ref q] ∧ PairAt G q t b ∧ Fine (t, b) ∧ DSt G H st m ∧ m + 2 < 1000000 ∧ ∀ v H', Num C H' v t b → (∀ p, v = .ref p → ∀ xs, H' p ≠ some (.lst xs)) → DSt G H' st (m + 2) → Q v H'
theorem ok_value (T : Txt K mg) : FnOk P w K mg base CX0 3 T.f_value T.d_value ["_law_state", "_law_pair"] (spValue T.f_Ratio) := by
  have G_draw : FnOk P w K mg base CX0 1 T.f_draw T.d_draw ["_law_state", "_law_size"] spDraw := ok_draw T
  have G_Ratio_init : FnOk P w K mg base CX0 1 T.f_Ratio_init T.d_Ratio_init ["self", "top", "bottom"] (spInit T.f_Ratio) := ok_init T
  refine T.F_value.ok sc_value (fun vs H Q E h => ?_) (fun cdv A outer s H vs Q E hr h => ?_)
  · obtain ⟨st, q, t, b, G, m, rfl, _⟩ := h
    rfl
  · obtain ⟨st, q, t, b, G, m, rfl, pq, hf, d, hm, k⟩ := h
    refine ⟨_, (pss_cons (ps_if (PW.pt (pw_and (pt_cmpR op_eq (pe_ix ix_tup (pv 1) pe_int (fun _ _ => rfl)) pe_int (nomark _)) (pw_and1 (pt_cmpR op_eq (pe_call G_draw (hr.mono (by decide)) rfl T.m_draw T.F_draw.kp T.b_draw .nil pass0 (pa_cons (pv 0) (pa_cons pe_int pa_nil))) pe_int (nomark _)))))
      (pss_one (ps_ret (pe_ix ix_tup (pv 1) pe_int (fun _ _ => rfl))))
      pss_nil)
    (pss_cons (ps_set (i := 2) sc_value.nd rfl (Or.inl rfl) (pe_op op_add pe_int (pe_call G_draw (hr.mono (by decide)) rfl T.m_draw T.F_draw.kp T.b_draw .nil pass0 (pa_cons (pv 0) (pa_cons pe_int pa_nil)))))
    (pss_one (ps_ret (pe_make T.mk_Ratio G_Ratio_init (hr.mono (by decide)) rfl T.m_Ratio T.b2_Ratio_init T.v2_Ratio_init pass0 (pa_cons (pe_op op_mulW (pe_ix ix_tup (pv 1) pe_int (fun _ _ => rfl)) (pv 2)) (pa_cons (pe_op op_mulW (pe_ix ix_tup (pv 1) pe_int (fun _ _ => rfl)) (pv 2)) pa_nil))))))), ?_⟩
    refine ⟨_, rfl, q, _, 1, .int b, rfl, rfl, SqT.of (pq.on d.same), rfl, rfl, _, rfl, ite2 (fun hb => ?_) fun _ => ?_⟩
    · refine ⟨_, rfl, G, st, m, 2, rfl, d, by omega, by decide, by decide, fun r H1 _ _ d1 => ⟨rfl, _, rfl, ite2 (fun _ => ?_) fun _ => ?_⟩⟩
      · exact ⟨_, rfl, q, _, 0, .int t, rfl, rfl, SqT.of (pq.on d1.same), rfl, k _ _ (.inl ⟨rfl, int_eq hb⟩) (fun p z => nomatch z) (d1.mono (by omega))⟩
      · refine ⟨_, rfl, G, st, m + 1, 3, rfl, d1, by omega, by decide, by decide, fun r H2 r0 r1 d2 => ?_⟩
        refine ⟨_, _, rfl, rfl, ?_⟩
        have hr1 : SM (1 + r) := Nat.lt_of_lt_of_le (show (1 + r).natAbs < 100 by omega) (by decide +kernel)
        have hz : (1 + r) ≠ 0 := by omega
        have p2 := pq.on d2.same
        refine ⟨_, rfl, q, _, 0, .int t, rfl, rfl, SqT.of p2, rfl, _, rfl, _, _, rfl, rfl, sm_mul hf.2.1 hr1, ?_⟩
        refine ⟨_, rfl, q, _, 1, .int b, rfl, rfl, SqT.of p2, rfl, _, rfl, _, _, rfl, rfl, sm_mul hf.2.2 hr1, ?_⟩
        refine fun x dx nx ndx ne => ⟨x, dx, t * (1 + r), b * (1 + r), rfl, upd_same, Int.mul_ne_zero hf.1.ne hz, big_mul hf.2.2 hr1, fun H3 r3 e3 => ⟨rfl, ?_⟩⟩
        have s3 := Same.made nx ndx e3
        have ls := low_scale (k := 1 + r) (t := t) (b := b) hz hf.1.ne
        rw [Int.mul_comm (1 + r) t, Int.mul_comm (1 + r) b] at ls
        have ht : lowT t b = t := hf.1.tt
        have hb : lowB t b = b := hf.1.bb
        rw [ls.1, ls.2, ht, hb] at r3
        refine k _ _ (.inr ⟨x, rfl, r3⟩) (fun p z xs e => ?_) ((d2.on s3).mono (by omega))
        injection z with z
        obtain ⟨d0, h0⟩ := r3
        rw [← z, h0] at e
        cases e
    · have d1 : DSt G H st (m + 1) := d.mono (by omega)
      refine ⟨_, rfl, G, st, m + 1, 3, rfl, d1, by omega, by decide, by decide, fun r H2 r0 r1 d2 => ?_⟩
      refine ⟨_, _, rfl, rfl, ?_⟩
      have hr1 : SM (1 + r) := Nat.lt_of_lt_of_le (show (1 + r).natAbs < 100 by omega) (by decide +kernel)
      have hz : (1 + r) ≠ 0 := by omega
      have p2 := pq.on d2.same
      refine ⟨_, rfl, q, _, 0, .int t, rfl, rfl, SqT.of p2, rfl, _, rfl, _, _, rfl, rfl, sm_mul hf.2.1 hr1, ?_⟩
      refine ⟨_, rfl, q, _, 1, .int b, rfl, rfl, SqT.of p2, rfl, _, rfl, _, _, rfl, rfl, sm_mul hf.2.2 hr1, ?_⟩
      refine fun x dx nx ndx ne => ⟨x, dx, t * (1 + r), b * (1 + r), rfl, upd_same, Int.mul_ne_zero hf.1.ne hz, big_mul hf.2.2 hr1, fun H3 r3 e3 => ⟨rfl, ?_⟩⟩
      have s3 := Same.made nx ndx e3
      have ls := low_scale (k := 1 + r) (t := t) (b := b) hz hf.1.ne
      rw [Int.mul_comm (1 + r) t, Int.mul_comm (1 + r) b] at ls
      have ht : lowT t b = t := hf.1.tt
      have hb : lowB t b = b := hf.1.bb
      rw [ls.1, ls.2, ht, hb] at r3
      refine k _ _ (.inr ⟨x, rfl, r3⟩) (fun p z xs e => ?_) ((d2.on s3).mono (by omega))
      injection z with z
      obtain ⟨d0, h0⟩ := r3
      rw [← z, h0] at e
      cases e
end

/-! ### draws by values -/
section
variable {P : Program} {w : World} {K : PySem.W.Frag} {mg : Str → Option Value} {base : Heap}
def spValueV (C : Addr) : Sp := fun vs H Q _ => ∃ (st q : Addr) (x : Rat) (n : Nat) (G : Hp) (m : Nat), vs = [.ref st, .ref q] ∧ PV G q x n ∧ n ≤ 3900 ∧ DSt G H st m ∧ m + 2 < 1000000 ∧ ∀ v H', NV C H' v x n → (∀ p, v = .ref p → ∀ xs, H' p ≠ some (.lst xs)) → DSt G H' st (m + 2) → Q v H'
theorem okv_value (T : Txt K mg) : FnOk P w K mg base CX0 3 T.f_value T.d_value ["_law_state", "_law_pair"] (spValueV T.f_Ratio) := (ok_value T).imp fun vs H Q E ⟨st, q, x, n, G, m, e, ⟨t, b, pa, l, ev, sz⟩, hn, d, hm, k⟩ =>
  ⟨st, q, t, b, G, m, e, pa, ⟨l, (sz.sm hn).1, (sz.sm hn).2⟩, d, hm, fun v H' nu nl d' => k v H' ⟨t, b, nu, l, ev, sz⟩ nl d'⟩
/-- what is no list is known -/
def NL (H G : Hp) : Prop := ∀ a o, H a = some o → (∀ xs, o ≠ .lst xs) → G a = some o
theorem RV.nl {C : Addr} {H G : Hp} {p : Addr} {x : Rat} {n : Nat} (r : RV C H p x n) (h : NL H G) : RV C G p x n := let ⟨t, b, ⟨dx, e⟩, h2⟩ := r; ⟨t, b, ⟨dx, h _ _ e (fun _ z => nomatch z)⟩, h2⟩
theorem NV.nl {C : Addr} {H G : Hp} {v : V} {x : Rat} {n : Nat} (r : NV C H v x n) (h : NL H G) : NV C G v x n := by
  obtain ⟨t, b, nm, h2⟩ := r
  refine ⟨t, b, ?_, h2⟩
  rcases nm with e | ⟨p, e, dx, hp⟩
  · exact .inl e
  · exact .inr ⟨p, e, dx, h _ _ hp (fun _ z => nomatch z)⟩
theorem PV.nl {H G : Hp} {q : Addr} {x : Rat} {n : Nat} (r : PV H q x n) (h : NL H G) : PV G q x n := let ⟨t, b, e, h2⟩ := r; ⟨t, b, h _ _ e (fun _ z => nomatch z), h2⟩
theorem RVs.nl {C : Addr} {H G : Hp} {ps : List Addr} {xs : List Rat} {n : Nat} (r : RVs C H ps xs n) (h : NL H G) : RVs C G ps xs n := ⟨r.1, fun i p x h1 h2 => (r.2 i p x h1 h2).nl h⟩
theorem LineAt.nl {LC RC : Addr} {H G : Hp} {p : Addr} {l : List Seg} {n : Nat} (r : LineAt LC RC H p l n) (h : NL H G) : LineAt LC RC G p l n := by
  obtain ⟨dx, a, b, c, e, ⟨p1, e1, r1⟩, ⟨p2, e2, r2⟩, ⟨p3, e3, r3⟩⟩ := r
  exact ⟨dx, a, b, c, h _ _ e (fun _ z => nomatch z), ⟨p1, h _ _ e1 (fun _ z => nomatch z), r1.nl h⟩, ⟨p2, h _ _ e2 (fun _ z => nomatch z), r2.nl h⟩, ⟨p3, h _ _ e3 (fun _ z => nomatch z), r3.nl h⟩⟩
end

/-! ### draws of the law's pairs -/
section
variable {P : Program} {w : World} {K : PySem.W.Frag} {mg : Str → Option Value} {base : Heap}
def tDr (i : Nat) (a : TE) : TE := tCall spDraw [] E0 (tCons (tVar i) (tCons a tNil))
theorem tDr_run {σ : L2.St} {G H : Hp} {Q : VK} {st : Addr} {m : Nat} {i : Nat} {A : Int} {a : TE} (h0 : σ[i]? = some (some (.ref st))) (ha : ∀ H Q, Q (.int A) H → a σ H Q) (d : DSt G H st m) (hm : m < 1000000) (hA : 0 < A) (hA2 : A < 2 ^ 200) (k : ∀ (r : Int) (H' : Hp), 0 ≤ r → r < A → DSt G H' st (m + 1) → Q (.int r) H') : tDr i a σ H Q :=
  ⟨_, h0, ha _ _ ⟨G, st, m, A, rfl, d, hm, hA, hA2, k⟩⟩
theorem pow_le {n m : Nat} (h : n ≤ m) : (2 : Int) ^ n ≤ 2 ^ m := by
  have := Nat.pow_le_pow_right (n := 2) (by decide) h
  exact_mod_cast this
theorem abs_lt {r A : Int} {n : Nat} (h0 : 0 ≤ r) (h1 : r < A) (h2 : A ≤ 2 ^ n) : r.natAbs < 2 ^ n := by
  have h : ((r.natAbs : Nat) : Int) < ((2 ^ n : Nat) : Int) := by
    have e : ((2 ^ n : Nat) : Int) = (2 : Int) ^ n := by exact_mod_cast rfl
    rw [e]
    omega
  exact_mod_cast h
theorem vq_nonneg {t b : Int} (h : 0 ≤ t) (hb : 0 < b) : 0 ≤ vq t b := by
  have h1 : ¬ vq t b < vq 0 1 := fun e => by
    have := (vq_lt hb (show (0 : Int) < 1 by decide)).mpr e
    omega
  have h2 : vq 0 1 = 0 := (vq_zero (by decide)).mpr rfl
  rw [h2] at h1
  exact Rat.not_lt.mp h1
theorem vq_pos {t b : Int} (h : 0 < t) (hb : 0 < b) : 0 < vq t b := by
  have h1 := (vq_lt (t := 0) (b := 1) (t' := t) (b' := b) (by decide) hb).mp (by omega)
  rw [(vq_zero (by decide)).mpr rfl] at h1
  exact h1
def tOne (a : TE) : TE := tOp (rI0 fun i j => V.int (i + j)) (tC (V.int 1)) a
def tLw (a b : TE) : TE := tCall spLowV [] E0 (tCons a (tCons b tNil))
/-- low(draw, 1 + draw) -/
theorem tLow_run {σ : L2.St} {G H : Hp} {Q : VK} {st : Addr} {m n : Nat} {i : Nat} {A B : Int} {a b : TE} (h0 : σ[i]? = some (some (.ref st))) (ha : ∀ H Q, Q (.int A) H → a σ H Q) (hb : ∀ H Q, Q (.int B) H → b σ H Q) (d : DSt G H st m) (hm : m + 2 < 1000000) (hA : 0 < A) (hA2 : A ≤ 2 ^ n) (hB : 0 < B) (hB2 : B ≤ 2 ^ n - 1) (hn : n ≤ 199)
    (k : ∀ (q : Addr) (G' H' : Hp) (x : Rat), Same G G' → DSt G' H' st (m + 2) → PV G' q x n → 0 ≤ x → Q (.ref q) H') : tLw (tDr i a) (tOne (tDr i b)) σ H Q := by
  have hp := pow_le (n := n) (m := 199) hn
  have hq : (2 : Int) ^ 199 < 2 ^ 200 := by decide
  refine tDr_run h0 ha d (by omega) hA (by omega) fun r H1 r0 r1 d1 => ?_
  refine tDr_run h0 hb d1 (by omega) hB (by omega) fun u H2 u0 u1 d2 => ?_
  refine ⟨_, _, rfl, rfl, r, 1 + u, n, rfl, by omega, ⟨abs_lt r0 r1 hA2, abs_lt (A := 2 ^ n) (by omega) (by omega) (Int.le_refl _)⟩, by omega, fun q H3 nq s3 p3 => ?_⟩
  obtain ⟨G3, d3, sG, nl⟩ := (d2.on s3).grow
  exact k q G3 H3 _ sG d3 (p3.nl nl) (vq_nonneg r0 (by omega))
/-- low(1 + draw, 1 + draw) -/
theorem tLow1_run {σ : L2.St} {G H : Hp} {Q : VK} {st : Addr} {m n : Nat} {i : Nat} {A B : Int} {a b : TE} (h0 : σ[i]? = some (some (.ref st))) (ha : ∀ H Q, Q (.int A) H → a σ H Q) (hb : ∀ H Q, Q (.int B) H → b σ H Q) (d : DSt G H st m) (hm : m + 2 < 1000000) (hA : 0 < A) (hA2 : A ≤ 2 ^ n - 1) (hB : 0 < B) (hB2 : B ≤ 2 ^ n - 1) (hn : n ≤ 199)
    (k : ∀ (q : Addr) (G' H' : Hp) (x : Rat), Same G G' → DSt G' H' st (m + 2) → PV G' q x n → 0 < x → Q (.ref q) H') : tLw (tOne (tDr i a)) (tOne (tDr i b)) σ H Q := by
  have hp := pow_le (n := n) (m := 199) hn
  have hq : (2 : Int) ^ 199 < 2 ^ 200 := by decide
  refine tDr_run h0 ha d (by omega) hA (by omega) fun r H1 r0 r1 d1 => ?_
  refine ⟨_, _, rfl, rfl, tDr_run h0 hb d1 (by omega) hB (by omega) fun u H2 u0 u1 d2 => ?_⟩
  refine ⟨_, _, rfl, rfl, 1 + r, 1 + u, n, rfl, by omega, ⟨abs_lt (A := 2 ^ n) (by omega) (by omega) (Int.le_refl _), abs_lt (A := 2 ^ n) (by omega) (by omega) (Int.le_refl _)⟩, by omega, fun q H3 nq s3 p3 => ?_⟩
  obtain ⟨G3, d3, sG, nl⟩ := (d2.on s3).grow
  exact k q G3 H3 _ sG d3 (p3.nl nl) (vq_pos (by omega) (by omega))
end

/-! ### the law's corners -/
section
variable {P : Program} {w : World} {K : PySem.W.Frag} {mg : Str → Option Value} {base : Heap}
theorem pick6 {r : Int} (h0 : 0 ≤ r) (h1 : r < 6) : ∃ A : Int, atI [V.int 3, .int 10, .int 10, .int 1000, .int 1000, .int (10 ^ (8 : Int).toNat)] r = some (V.int A) ∧ 0 < A ∧ A ≤ 10 ^ 8 := by
  have : r = 0 ∨ r = 1 ∨ r = 2 ∨ r = 3 ∨ r = 4 ∨ r = 5 := by omega
  rcases this with rfl | rfl | rfl | rfl | rfl | rfl <;> exact ⟨_, rfl, by decide, by decide⟩
theorem pick4 {r : Int} (h0 : 0 ≤ r) (h1 : r < 4) : ∃ A : Int, atI [V.int 1, .int 1, .int 4, .int 12] r = some (V.int A) ∧ 0 < A ∧ A ≤ 12 := by
  have : r = 0 ∨ r = 1 ∨ r = 2 ∨ r = 3 := by omega
  rcases this with rfl | rfl | rfl | rfl <;> exact ⟨_, rfl, by decide, by decide⟩
theorem pick3 {r : Int} (h0 : 0 ≤ r) (h1 : r < 3) : ∃ A : Int, atI [V.int 6, .int 6, .int (10 ^ (6 : Int).toNat)] r = some (V.int A) ∧ 0 < A ∧ A ≤ 10 ^ 6 := by
  have : r = 0 ∨ r = 1 ∨ r = 2 := by omega
  rcases this with rfl | rfl | rfl <;> exact ⟨_, rfl, by decide, by decide⟩
theorem CorP.mono {H : Hp} {L : Addr} {cs : List (Rat × Rat)} {n m : Nat} (r : CorP H L cs n) (h : n ≤ m) : CorP H L cs m := by
  obtain ⟨qs, h1, h2, h3⟩ := r
  refine ⟨qs, h1, h2, fun i t d ht hd => ?_⟩
  obtain ⟨u, v, e, a, b⟩ := h3 i t d ht hd
  exact ⟨u, v, e, a.mono h, b.mono h⟩
theorem Cor.snoc {cs : List (Rat × Rat)} (h : Cor cs) {i : Nat} {c d : Rat × Rat} (hc : cs[i]? = some c) (hi : i + 1 = cs.length) (h1 : c.1 < d.1) (h2 : c.2 ≤ d.2) : Cor (cs ++ [d]) := by
  have h0 : 0 < cs.length := by omega
  refine ⟨by simp, fun a ha => ?_, fun j a b ha hb => ?_⟩
  · rw [List.getElem?_append_left h0] at ha
    exact h.2.1 a ha
  · have hj := (List.getElem?_eq_some_iff.mp hb).1
    rw [List.length_append, List.length_singleton] at hj
    rw [List.getElem?_append_left (by omega)] at ha
    by_cases e : j = i
    · subst e
      rw [hc] at ha
      rw [List.getElem?_append_right (by omega), show j + 1 - cs.length = 0 by omega] at hb
      rw [← Option.some.inj ha, ← Option.some.inj (show some d = some b from hb)]
      exact ⟨h1, h2⟩
    · rw [List.getElem?_append_left (by omega)] at hb
      exact h.2.2 j a b ha hb
theorem CorP.snoc {H : Hp} {L T u v : Addr} {qs : List Addr} {cs : List (Rat × Rat)} {d : Rat × Rat} {n : Nat} (hL : H L = some (.lst (qs.map V.ref))) (hl : qs.length = cs.length) (h3 : ∀ (i : Nat) t d, qs[i]? = some t → cs[i]? = some d → ∃ u v, H t = some (.tup [.ref u, .ref v]) ∧ PV H u d.1 n ∧ PV H v d.2 n)
    (eT : H T = some (.tup [.ref u, .ref v])) (pu : PV H u d.1 n) (pv : PV H v d.2 n) : CorP (upd H L (.lst (qs.map V.ref ++ [V.ref T]))) L (cs ++ [d]) n := by
  have tu : ∀ (t : Addr) (xs : List V), H t = some (.tup xs) → (upd H L (.lst (qs.map V.ref ++ [V.ref T]))) t = some (.tup xs) := fun t xs e => by
    rw [upd_ne (fun z => by rw [z, hL] at e; cases e)]
    exact e
  refine ⟨qs ++ [T], by rw [upd_same, List.map_append]; rfl, by rw [List.length_append, List.length_append, hl]; rfl, fun j t dd h1 h2 => ?_⟩
  by_cases hj : j < qs.length
  · rw [List.getElem?_append_left hj] at h1
    rw [List.getElem?_append_left (by omega)] at h2
    obtain ⟨u', v', e, a, b⟩ := h3 j t dd h1 h2
    exact ⟨u', v', tu _ _ e, a.put hL, b.put hL⟩
  · have hj' := (List.getElem?_eq_some_iff.mp h1).1
    rw [List.length_append, List.length_singleton] at hj'
    rw [List.getElem?_append_right (by omega), show j - qs.length = 0 by omega] at h1
    rw [List.getElem?_append_right (by omega), show j - cs.length = 0 by omega] at h2
    rw [← Option.some.inj (show some T = some t from h1), ← Option.some.inj (show some d = some dd from h2)]
    exact ⟨u, v, tu _ _ eT, pu.put hL, pv.put hL⟩
def spCorners : Sp := fun vs H Q _ => ∃ (st : Addr) (m : Nat) (G : Hp), vs = [.ref st] ∧ DSt G H st m ∧ m + 100 < 1000000 ∧
  ∀ (o L r : Addr) (cs : List (Rat × Rat)) (s : Rat) H' G', Same G G' → DSt G' H' st (m + 100) → G' o = some (.tup [.ref L, .ref r]) → CorP G' L cs 180 → Cor cs → cs.length ≤ 6 → PV G' r s 180 → 0 ≤ s → Q (.ref o) H'
theorem ok_corners (T : Txt K mg) : FnOk P w K mg base CX0 3 T.f_corners T.d_corners ["_law_state"] spCorners := by
  have G_draw : FnOk P w K mg base CX0 1 T.f_draw T.d_draw ["_law_state", "_law_size"] spDraw := ok_draw T
  have G_low : FnOk P w K mg base CX0 1 T.f_low T.d_low ["_law_up", "_law_down"] spLowV := okv_low T
  have G_times : FnOk P w K mg base CX0 2 T.f_times T.d_times ["_law_one", "_law_two"] spTimesV := okv_times T
  have G_plus : FnOk P w K mg base CX0 2 T.f_plus T.d_plus ["_law_one", "_law_two"] spPlusV := okv_plus T
  refine T.F_corners.ok sc_corners (fun vs H Q E h => ?_) (fun cdv A outer s H vs Q E hr h => ?_)
  · obtain ⟨st, m, G, rfl, _⟩ := h
    rfl
  · obtain ⟨st, m, G, rfl, d, hm, k⟩ := h
    refine ⟨_, (pss_cons (ps_set (i := 1) sc_corners.nd rfl (Or.inl rfl) (pe_ix ix_list (pe_lst (pa_cons pe_int (pa_cons pe_int (pa_cons pe_int (pa_cons pe_int (pa_cons pe_int (pa_cons (pe_op op_pow pe_int pe_int) pa_nil))))))) (pe_call G_draw (hr.mono (by decide)) rfl T.m_draw T.F_draw.kp T.b_draw .nil pass0 (pa_cons (pv 0) (pa_cons pe_int pa_nil))) (fun _ _ => rfl)))
    (pss_cons (ps_set (i := 2) sc_corners.nd rfl (Or.inl rfl) (pe_ix ix_list (pe_lst (pa_cons pe_int (pa_cons pe_int (pa_cons pe_int (pa_cons pe_int pa_nil))))) (pe_call G_draw (hr.mono (by decide)) rfl T.m_draw T.F_draw.kp T.b_draw .nil pass0 (pa_cons (pv 0) (pa_cons pe_int pa_nil))) (fun _ _ => rfl)))
    (pss_cons (ps_set (i := 3) sc_corners.nd rfl (Or.inl rfl) (pe_lst (pa_cons (pe_tup (pa_cons (pe_tup (pa_cons pe_int (pa_cons pe_int pa_nil))) (pa_cons (pe_call G_low (hr.mono (by decide)) rfl T.m_low T.F_low.kp T.b_low .nil pass0 (pa_cons (pe_call G_draw (hr.mono (by decide)) rfl T.m_draw T.F_draw.kp T.b_draw .nil pass0 (pa_cons (pv 0) (pa_cons (pv 1) pa_nil))) (pa_cons (pe_op op_add pe_int (pe_call G_draw (hr.mono (by decide)) rfl T.m_draw T.F_draw.kp T.b_draw .nil pass0 (pa_cons (pv 0) (pa_cons (pv 2) pa_nil)))) pa_nil))) pa_nil))) pa_nil)))
    (pss_cons (ps_set (i := 4) sc_corners.nd rfl (Or.inl rfl) (pe_call G_low (hr.mono (by decide)) rfl T.m_low T.F_low.kp T.b_low .nil pass0 (pa_cons (pe_call G_draw (hr.mono (by decide)) rfl T.m_draw T.F_draw.kp T.b_draw .nil pass0 (pa_cons (pv 0) (pa_cons pe_int pa_nil))) (pa_cons (pe_op op_add pe_int (pe_call G_draw (hr.mono (by decide)) rfl T.m_draw T.F_draw.kp T.b_draw .nil pass0 (pa_cons (pv 0) (pa_cons pe_int pa_nil)))) pa_nil))))
    (C8.pss_cut (ps_for PassesOwn.never rfl (pi_range1 rfl T.n_range (pa_cons (pe_call G_draw (hr.mono (by decide)) rfl T.m_draw T.F_draw.kp T.b_draw .nil pass0 (pa_cons (pv 0) (pa_cons pe_int pa_nil))) pa_nil)) (pg_name (i := 5) sc_corners.nd rfl (Or.inl rfl))
      (pss_cons (ps_set (i := 6) sc_corners.nd rfl (Or.inl rfl) (pe_call G_low (hr.mono (by decide)) rfl T.m_low T.F_low.kp T.b_low .nil pass0 (pa_cons (pe_op op_add pe_int (pe_call G_draw (hr.mono (by decide)) rfl T.m_draw T.F_draw.kp T.b_draw .nil pass0 (pa_cons (pv 0) (pa_cons (pv 1) pa_nil)))) (pa_cons (pe_op op_add pe_int (pe_call G_draw (hr.mono (by decide)) rfl T.m_draw T.F_draw.kp T.b_draw .nil pass0 (pa_cons (pv 0) (pa_cons (pv 2) pa_nil)))) pa_nil))))
    (pss_cons (ps_set (i := 7) sc_corners.nd rfl (Or.inl rfl) (pe_call G_low (hr.mono (by decide)) rfl T.m_low T.F_low.kp T.b_low .nil pass0 (pa_cons (pe_call G_draw (hr.mono (by decide)) rfl T.m_draw T.F_draw.kp T.b_draw .nil pass0 (pa_cons (pv 0) (pa_cons (pv 1) pa_nil))) (pa_cons (pe_op op_add pe_int (pe_call G_draw (hr.mono (by decide)) rfl T.m_draw T.F_draw.kp T.b_draw .nil pass0 (pa_cons (pv 0) (pa_cons (pv 2) pa_nil)))) pa_nil))))
    (pss_cons (ps_set (i := 8) sc_corners.nd rfl (Or.inl rfl) (pe_call G_draw (hr.mono (by decide)) rfl T.m_draw T.F_draw.kp T.b_draw .nil pass0 (pa_cons (pv 0) (pa_cons pe_int pa_nil))))
    (C8.pss_cut (ps_if (pt_cmpR op_eq (pv 8) pe_int (nomark _))
      (pss_one (ps_set (i := 7) sc_corners.nd rfl (Or.inl rfl) (pe_tup (pa_cons pe_int (pa_cons pe_int pa_nil)))))
      pss_nil)
    (C8.pss_cut (ps_if (pt_cmpR op_eq (pv 8) pe_int (nomark _))
      (pss_one (ps_set (i := 7) sc_corners.nd rfl (Or.inl rfl) (pe_call G_times (hr.mono (by decide)) rfl T.m_times T.F_times.kp T.b_times .nil pass0 (pa_cons (pv 6) (pa_cons (pv 4) pa_nil)))))
      pss_nil)
    (pss_cons (ps_asg (pe_ix ix_list (pv 3) (pe_un un_neg pe_int) (fun _ _ => rfl)) (pg_tup rfl (pgs_cons (pg_name (i := 9) sc_corners.nd rfl (Or.inl rfl)) (pgs_cons (pg_name (i := 10) sc_corners.nd rfl (Or.inl rfl)) pgs_nil))))
    (pss_one (ps_expr (pe_bm PySem.F.plainAttrs_list PySem.F.slot_list_append PySem.F.type_list_append mt_append (pv 3) (pa_cons (pe_tup (pa_cons (pe_call G_plus (hr.mono (by decide)) rfl T.m_plus T.F_plus.kp T.b_plus .nil pass0 (pa_cons (pv 9) (pa_cons (pv 6) pa_nil))) (pa_cons (pe_call G_plus (hr.mono (by decide)) rfl T.m_plus T.F_plus.kp T.b_plus .nil pass0 (pa_cons (pv 10) (pa_cons (pv 7) pa_nil))) pa_nil))) pa_nil)))))))))))
    (pss_cons (ps_set (i := 11) sc_corners.nd rfl (Or.inl rfl) (pe_ix ix_list (pe_lst (pa_cons pe_int (pa_cons pe_int (pa_cons (pe_op op_pow pe_int pe_int) pa_nil)))) (pe_call G_draw (hr.mono (by decide)) rfl T.m_draw T.F_draw.kp T.b_draw .nil pass0 (pa_cons (pv 0) (pa_cons pe_int pa_nil))) (fun _ _ => rfl)))
    (pss_cons (ps_set (i := 7) sc_corners.nd rfl (Or.inl rfl) (pe_ix ix_list (pe_lst (pa_cons (pe_tup (pa_cons pe_int (pa_cons pe_int pa_nil))) (pa_cons (pe_tup (pa_cons pe_int (pa_cons pe_int pa_nil))) (pa_cons (pv 4) (pa_cons (pe_call G_low (hr.mono (by decide)) rfl T.m_low T.F_low.kp T.b_low .nil pass0 (pa_cons (pe_call G_draw (hr.mono (by decide)) rfl T.m_draw T.F_draw.kp T.b_draw .nil pass0 (pa_cons (pv 0) (pa_cons pe_int pa_nil))) (pa_cons (pe_op op_add pe_int (pe_call G_draw (hr.mono (by decide)) rfl T.m_draw T.F_draw.kp T.b_draw .nil pass0 (pa_cons (pv 0) (pa_cons (pv 11) pa_nil)))) pa_nil))) pa_nil))))) (pe_call G_draw (hr.mono (by decide)) rfl T.m_draw T.F_draw.kp T.b_draw .nil pass0 (pa_cons (pv 0) (pa_cons pe_int pa_nil))) (fun _ _ => rfl)))
    (pss_one (ps_ret (pe_tup (pa_cons (pv 3) (pa_cons (pv 7) pa_nil)))))))))))), ?_⟩
    have z2 : 2 ≤ sizeLine := by decide
    have z1 : 1 ≤ sizeLine := by decide
    -- the scale
    refine ⟨_, _, rfl, rfl, ⟨by decide, by decide, by decide⟩, by show 6 ≤ sizeLine; decide, fun l1 nl1 => ?_⟩
    refine ⟨_, rfl, _, st, m, 6, rfl, d.new nl1, by omega, by decide, by decide, fun r H1 r0 r1 d1 => ?_⟩
    obtain ⟨sc, esc, sc0, sc1⟩ := pick6 r0 r1
    refine ⟨l1, _, r, .int sc, rfl, rfl, SqL.of (d1.same _ _ upd_same), esc, ?_⟩
    have g1 := same_upd (o := .lst [V.int 3, .int 10, .int 10, .int 1000, .int 1000, .int (10 ^ (8 : Int).toNat)]) (d.free nl1)
    -- the most
    refine ⟨by show 4 ≤ sizeLine; decide, fun l2 nl2 => ?_⟩
    refine ⟨_, rfl, _, st, m + 1, 4, rfl, d1.new nl2, by omega, by decide, by decide, fun r2 H2 r20 r21 d2 => ?_⟩
    obtain ⟨mo, emo, mo0, mo1⟩ := pick4 r20 r21
    refine ⟨l2, _, r2, .int mo, rfl, rfl, SqL.of (d2.same _ _ upd_same), emo, ?_⟩
    have g2 := g1.trans (same_upd (o := .lst [V.int 1, .int 1, .int 4, .int 12]) (d1.free nl2))
    revert d2 g2
    generalize upd _ l2 _ = G2
    intro d2 g2
    -- the first corner
    refine ⟨z2, fun z nz => ?_⟩
    have d3 := d2.new (o := .tup [V.int 0, .int 1]) nz
    have g3 := g2.trans (same_upd (o := .tup [V.int 0, .int 1]) (d2.free nz))
    have pz : PV (upd G2 z (.tup [V.int 0, .int 1])) z 0 30 := ⟨0, 1, upd_same, Low.one 0, (vq_zero (by decide)).mpr rfl, by decide, by decide⟩
    revert d3 g3 pz
    generalize upd G2 z _ = G3
    intro d3 g3 pz
    refine tLow_run (A := sc) (B := mo) (a := tVar 1) (b := tVar 2) (n := 27) rfl (fun _ _ q => ⟨_, rfl, q⟩) (fun _ _ q => ⟨_, rfl, q⟩) d3 (by omega) sc0 (by omega) mo0 (by omega) (by decide) fun q1 G4 H4 x1 s4 d4 p1 hx1 => ?_
    refine ⟨z2, fun t1 nt1 => ⟨z1, fun L nL => ?_⟩⟩
    have d5 := d4.new (o := .tup [V.ref z, .ref q1]) nt1
    have g5 := same_upd (o := .tup [V.ref z, .ref q1]) (d4.free nt1)
    have d6 := d5.new (o := .lst [V.ref t1]) nL
    have fL := d5.free nL
    have g6 := same_upd (o := .lst [V.ref t1]) fL
    have fLG : G L = none := ((g3.trans s4).trans g5).free fL
    have gb := ((g3.trans s4).trans g5).trans g6
    have hC : CorP (upd (upd G4 t1 (.tup [V.ref z, .ref q1])) L (.lst [V.ref t1])) L [(0, x1)] 30 := by
      refine ⟨[t1], upd_same, rfl, fun i t dd h1 h2 => ?_⟩
      cases i with
      | succ i => simp at h1
      | zero =>
        obtain rfl := Option.some.inj h1
        obtain rfl := Option.some.inj h2
        exact ⟨z, q1, g6 _ _ upd_same, ((pz.on s4).on g5).on g6, ((p1.on g5).on g6).mono (by decide)⟩
    have hC0 : Cor [(0, x1)] := ⟨by simp, fun c h => by obtain rfl := Option.some.inj h; exact ⟨rfl, hx1⟩, fun i c dd _ h => by simp at h⟩
    revert d6 gb hC
    generalize upd (upd G4 t1 _) L _ = G6
    intro d6 gb hC
    -- the slope
    refine tLow_run (A := 4) (B := 3) (a := tC (.int 4)) (b := tC (.int 3)) (n := 2) rfl (fun _ _ q => q) (fun _ _ q => q) d6 (by omega) (by decide) (by decide) (by decide) (by decide) (by decide) fun q2 G7 H7 x2 s7 d7 p2 hx2 => ?_
    have gb7 := gb.trans s7
    have hC7 := hC.on s7
    refine ⟨fun σ H' => ∃ (x5 x6 x7 x8 x9 x10 : Option V) (G' : Hp) (cs : List (Rat × Rat)), σ = [some (.ref st), some (.int sc), some (.int mo), some (.ref L), some (.ref q2), x5, x6, x7, x8, x9, x10, none] ∧ DSt G' H' st (m + 60) ∧ Same G G' ∧ CorP G' L cs 180 ∧ Cor cs ∧ cs.length ≤ 6 ∧ PV G' q2 x2 2, ?_, ?_⟩
    · refine ⟨_, rfl, G7, st, m + 6, 6, rfl, d7, by omega, by decide, by decide, fun cnt H8 c0 c1 d8 => ⟨cnt, rfl, by omega, by omega, ?_⟩⟩
      refine for_range (lo := 0) (n := cnt.toNat) (fun i σ H' => ∃ (x5 x6 x7 x8 x9 x10 : Option V) (G' : Hp) (cs : List (Rat × Rat)), σ = [some (.ref st), some (.int sc), some (.int mo), some (.ref L), some (.ref q2), x5, x6, x7, x8, x9, x10, none] ∧ DSt G' H' st (m + 7 + i * 5) ∧ Same G G' ∧ CorP G' L cs (30 + 30 * i) ∧ Cor cs ∧ cs.length = i + 1 ∧ PV G' q2 x2 2) ⟨none, none, none, none, none, none, G7, _, rfl, d8.mono (by omega), gb7, hC7, hC0, rfl, p2⟩ ?_ ?_
      · rintro i σ H9 hi ⟨x5, x6, x7, x8, x9, x10, G9, cs, rfl, d9, g9, hC9, hcor, hlen, p29⟩
        rw [Int.zero_add]
        have hi5 : i < 5 := by omega
        -- the step
        refine tLow1_run (A := sc) (B := mo) (a := tVar 1) (b := tVar 2) (n := 27) rfl (fun _ _ q => ⟨_, rfl, q⟩) (fun _ _ q => ⟨_, rfl, q⟩) d9 (by omega) sc0 (by omega) mo0 (by omega) (by decide) fun q6 G10 H10 xs s10 d10 p6 hxs => ?_
        refine tLow_run (A := sc) (B := mo) (a := tVar 1) (b := tVar 2) (n := 27) rfl (fun _ _ q => ⟨_, rfl, q⟩) (fun _ _ q => ⟨_, rfl, q⟩) d10 (by omega) sc0 (by omega) mo0 (by omega) (by decide) fun q7 G11 H11 xr s11 d11 p7 hxr => ?_
        have p6' := p6.on s11
        have s911 := s10.trans s11
        refine ⟨_, rfl, G11, st, _, 4, rfl, d11, by omega, by decide, by decide, fun r8 H12 r80 r81 d12 => ?_⟩
        refine ⟨fun σ H' => ∃ (q7 : Addr) (xr : Rat) (G' : Hp), σ = [some (.ref st), some (.int sc), some (.int mo), some (.ref L), some (.ref q2), some (.int (i : Int)), some (.ref q6), some (.ref q7), some (.int r8), x9, x10, none] ∧ DSt G' H' st (m + 7 + i * 5 + 5) ∧ Same G11 G' ∧ PV G' q7 xr 29 ∧ 0 ≤ xr, ?_, ?_⟩
        · refine ⟨_, rfl, rfl, _, rfl, ite2 (fun _ => ?_) fun _ => ?_⟩
          · refine ⟨z2, fun z nz => ?_⟩
            have dz := d12.new (o := .tup [V.int 0, .int 1]) nz
            exact ⟨z, 0, _, rfl, dz.mono (by omega), same_upd (d12.free nz), ⟨0, 1, upd_same, Low.one 0, (vq_zero (by decide)).mpr rfl, by decide, by decide⟩, Rat.le_refl⟩
          · exact ⟨q7, xr, G11, rfl, d12.mono (by omega), Same.refl _, p7.mono (by decide), hxr⟩
        rintro σ H13 ⟨q7', xr', G13, rfl, d13, s13, p13, hx13⟩
        refine ⟨fun σ H' => ∃ (q7 : Addr) (xr : Rat) (G' : Hp), σ = [some (.ref st), some (.int sc), some (.int mo), some (.ref L), some (.ref q2), some (.int (i : Int)), some (.ref q6), some (.ref q7), some (.int r8), x9, x10, none] ∧ DSt G' H' st (m + 7 + i * 5 + 5) ∧ Same G11 G' ∧ PV G' q7 xr 29 ∧ 0 ≤ xr, ?_, ?_⟩
        · refine ⟨_, rfl, rfl, _, rfl, ite2 (fun _ => ?_) fun _ => ?_⟩
          · refine ⟨_, rfl, _, rfl, q6, q2, xs, x2, 27, 2, rfl, (p6'.on s13).on d13.same, ((p29.on s911).on s13).on d13.same, by decide, by decide, fun o H14 no s14 w14 => ?_⟩
            obtain ⟨G14, d14, sg, nl⟩ := (d13.on s14).grow
            exact ⟨o, xs * x2, G14, rfl, d14, s13.trans sg, w14.nl nl, Rat.mul_nonneg (by grind) hx2⟩
          · exact ⟨q7', xr', G13, rfl, d13, s13, p13, hx13⟩
        rintro σ H14 ⟨q8, xr8, G14, rfl, d14, s14, p14, hx14⟩
        -- the last corner
        have sG := s911.trans s14
        obtain ⟨qs, hL, hql, hqs⟩ := hC9.on sG
        have hlast : cs[i]? = some (cs[i]'(by omega)) := List.getElem?_eq_getElem (by omega)
        have tlast : qs[i]? = some (qs[i]'(by omega)) := List.getElem?_eq_getElem (by omega)
        obtain ⟨u, v, et, pu, pv⟩ := hqs i _ _ tlast hlast
        refine ⟨_, rfl, 1, rfl, L, _, _, _, rfl, rfl, SqL.of (d14.same _ _ hL), atI_end (j := i) (by rw [List.getElem?_map, tlast]; rfl) (by rw [List.length_map]; omega), ?_⟩
        refine ⟨_, _, rfl, SqT.of (d14.same _ _ et), rfl, _, _, rfl, _, _, rfl, rfl, ?_⟩
        refine ⟨_, rfl, .inl ⟨rfl, _, SqL.of (d14.same _ _ hL)⟩, _, rfl, _, rfl, u, q6, _, xs, 30 + 30 * i, 27, rfl, pu.on d14.same, (p6'.on s14).on d14.same, by omega, by omega, fun o1 H15 n15 s15 w15 => ?_⟩
        obtain ⟨G15, d15, sg15, nl15⟩ := (d14.on s15).grow
        refine ⟨_, rfl, _, rfl, v, q8, _, xr8, 30 + 30 * i, 29, rfl, (pv.on sg15).on d15.same, (p14.on sg15).on d15.same, by omega, by omega, fun o2 H16 n16 s16 w16 => ?_⟩
        obtain ⟨G16, d16, sg16, nl16⟩ := (d15.on s16).grow
        refine ⟨z2, fun T nT => ?_⟩
        have d17 := d16.new (o := .tup [V.ref o1, .ref o2]) nT
        have s17 := same_upd (o := .tup [V.ref o1, .ref o2]) (d16.free nT)
        have sA := (sg15.trans sg16).trans s17
        have hL17 := sA _ _ hL
        refine ⟨L, _, _, rfl, rfl, d17.same _ _ hL17, small1000 (by rw [List.length_map]; omega), ?_⟩
        have dd := d17.put (o := .lst (qs.map V.ref ++ [V.ref T])) hL17
        have hpw := hcor.2.1
        refine ⟨_, _, _, _, _, _, _, cs ++ [(cs[i].1 + xs, cs[i].2 + xr8)], rfl, dd.mono (by omega), same_mut (((g9.trans sG).trans sA)) fLG, CorP.snoc hL17 hql (fun j t dd h1 h2 => ?_) upd_same ((((w15.nl nl15).on sg16).on s17).mono (by omega)) (((w16.nl nl16).on s17).mono (by omega)), hcor.snoc hlast (by omega) (by show cs[i].1 < cs[i].1 + xs; grind) (by show cs[i].2 ≤ cs[i].2 + xr8; grind), by rw [List.length_append, List.length_singleton]; omega, ?_⟩
        · obtain ⟨u', v', e', a', b'⟩ := hqs j t dd h1 h2
          exact ⟨u', v', sA _ _ e', (a'.on sA).mono (by omega), (b'.on sA).mono (by omega)⟩
        · exact ((p29.on sG).on sA).put hL17
      · rintro σ H9 ⟨x5, x6, x7, x8, x9, x10, G9, cs, rfl, d9, g9, hC9, hcor, hlen, p29⟩
        exact ⟨x5, x6, x7, x8, x9, x10, G9, cs, rfl, d9.mono (by omega), g9, hC9.mono (by omega), hcor, by omega, p29⟩
    rintro σ H9 ⟨x5, x6, x7, x8, x9, x10, G9, cs, rfl, d9, g9, hC9, hcor, hlen, p29⟩
    refine ⟨_, _, rfl, rfl, ⟨by decide, by decide, by decide⟩, by show 3 ≤ sizeLine; decide, fun l3 nl3 => ?_⟩
    refine ⟨_, rfl, _, st, m + 60, 3, rfl, d9.new nl3, by omega, by decide, by decide, fun r3 H10 r30 r31 d10 => ?_⟩
    obtain ⟨F, eF, F0, F1⟩ := pick3 r30 r31
    refine ⟨l3, _, r3, .int F, rfl, rfl, SqL.of (d10.same _ _ upd_same), eF, ?_⟩
    have s10 := same_upd (o := .lst [V.int 6, .int 6, .int (10 ^ (6 : Int).toNat)]) (d9.free nl3)
    revert d10 s10
    generalize upd G9 l3 _ = G10
    intro d10 s10
    refine ⟨z2, fun za nza => ⟨z2, fun zb nzb => ⟨_, rfl, ?_⟩⟩⟩
    have da := d10.new (o := .tup [V.int 0, .int 1]) nza
    have sa := same_upd (o := .tup [V.int 0, .int 1]) (d10.free nza)
    have db := da.new (o := .tup [V.int 1, .int 1]) nzb
    have sb := same_upd (o := .tup [V.int 1, .int 1]) (da.free nzb)
    have pa : PV (upd (upd G10 za (.tup [V.int 0, .int 1])) zb (.tup [V.int 1, .int 1])) za 0 30 := ⟨0, 1, sb _ _ upd_same, Low.one 0, (vq_zero (by decide)).mpr rfl, by decide, by decide⟩
    have pb : PV (upd (upd G10 za (.tup [V.int 0, .int 1])) zb (.tup [V.int 1, .int 1])) zb 1 30 := ⟨1, 1, upd_same, Low.one 1, by rw [vq_one]; rfl, by decide, by decide⟩
    have sab := (s10.trans sa).trans sb
    revert db sab pa pb
    generalize upd (upd G10 za _) zb _ = G11
    intro db pa pb sab
    refine tLow_run (A := 20) (B := F) (a := tC (.int 20)) (b := tVar 11) (n := 20) rfl (fun _ _ q => q) (fun _ _ q => ⟨_, rfl, q⟩) db (by omega) (by decide) (by decide) F0 (by omega) (by decide) fun q5 G12 H12 x12 s12 d12 p5 hx5 => ?_
    refine ⟨by show 4 ≤ sizeLine; decide, fun l4 nl4 => ?_⟩
    refine ⟨_, rfl, _, st, m + 63, 4, rfl, d12.new nl4, by omega, by decide, by decide, fun r4 H13 r40 r41 d13 => ?_⟩
    have s13 := same_upd (o := .lst [V.ref za, .ref zb, .ref q2, .ref q5]) (d12.free nl4)
    have sAll := (sab.trans s12).trans s13
    have s1213 := s12.trans s13
    obtain ⟨q, x, eq, pq, hx⟩ : ∃ (q : Addr) (x : Rat), atI [V.ref za, .ref zb, .ref q2, .ref q5] r4 = some (.ref q) ∧ PV (upd G12 l4 (.lst [V.ref za, .ref zb, .ref q2, .ref q5])) q x 180 ∧ 0 ≤ x := by
      have : r4 = 0 ∨ r4 = 1 ∨ r4 = 2 ∨ r4 = 3 := by omega
      rcases this with rfl | rfl | rfl | rfl
      · exact ⟨za, 0, rfl, (pa.on s1213).mono (by decide), Rat.le_refl⟩
      · exact ⟨zb, 1, rfl, (pb.on s1213).mono (by decide), by decide⟩
      · exact ⟨q2, x2, rfl, (p29.on sAll).mono (by decide), hx2⟩
      · exact ⟨q5, x12, rfl, (p5.on s13).mono (by decide), hx5⟩
    refine ⟨l4, _, r4, .ref q, rfl, rfl, SqL.of (d13.same _ _ upd_same), eq, ?_⟩
    refine ⟨_, rfl, _, rfl, z2, fun o no => ?_⟩
    have so := same_upd (o := .tup [V.ref L, .ref q]) (d13.free no)
    exact k o L q cs x _ _ ((g9.trans sAll).trans so) ((d13.new no).mono (by omega)) upd_same ((hC9.on sAll).on so) hcor hlen (pq.on so) hx
end

/-! ### the law's corners make lines that keep their promises -/
section
theorem div_nn {a d : Rat} (ha : 0 ≤ a) (hd : 0 < d) : 0 ≤ a / d := by
  refine Rat.not_lt.mp fun h => ?_
  have h1 := Rat.mul_lt_mul_of_pos_right h hd
  have h2 : a / d * d = a := by grind
  rw [h2] at h1
  grind
theorem segs_up : ∀ (cs : List (Rat × Rat)) (s : Rat), Up cs → 0 ≤ s → ∀ u ∈ segs cs s, 0 ≤ u.r
  | [], _, _, _, u, h => by cases h
  | [c], s, _, hs, u, h => by rw [List.mem_singleton.mp h]; exact hs
  | c :: d :: r, s, hu, hs, u, h => by
    have h' : u = ⟨c.1, c.2, (d.2 - c.2) / (d.1 - c.1)⟩ ∨ u ∈ segs (d :: r) s := List.mem_cons.mp h
    rcases h' with e | h'
    · rw [e]
      obtain ⟨h1, h2⟩ := hu 0 c d rfl rfl
      show 0 ≤ (d.2 - c.2) / (d.1 - c.1)
      exact div_nn (by grind) (by grind)
    · exact segs_up (d :: r) s (fun i a e h1 h2 => hu (i + 1) a e h1 h2) hs u h'
theorem gd_of {cs : List (Rat × Rat)} {s : Rat} (h : Cor cs) (hl : cs.length ≤ 900) : Gd (bends (segs cs s)) := by
  have hsub := bends_sub (segs cs s)
  have hlen := hsub.length_le
  rw [segs_len] at hlen
  refine ⟨?_, ?_, bends_srt (chn_srt _ (segs_chn cs s h.2.2)), by omega⟩
  · obtain ⟨h1, _⟩ := h
    match cs, h1 with
    | [c], _ => exact fun e => nomatch e
    | c :: d :: r, _ => exact fun e => nomatch e
  · intro u hu
    obtain ⟨h1, h2, _⟩ := h
    match cs, h1, h2, hu with
    | [c], _, h2, hu =>
      have e : (⟨c.1, c.2, s⟩ : Seg) = u := Option.some.inj hu
      rw [← e]
      exact (h2 c rfl).1
    | c :: d :: r, _, h2, hu =>
      have e : (⟨c.1, c.2, (d.2 - c.2) / (d.1 - c.1)⟩ : Seg) = u := Option.some.inj hu
      rw [← e]
      exact (h2 c rfl).1
theorem nice_of {cs : List (Rat × Rat)} {s : Rat} (h : Cor cs) (hs : 0 ≤ s) (hl : cs.length ≤ 900) : Nice (bends (segs cs s)) := by
  refine ⟨gd_of h hl, chn_bends (segs_chn cs s h.2.2), fun u hu => segs_up cs s h.2.2 hs u ((bends_sub _).subset hu), fun u hu => ?_⟩
  obtain ⟨h1, h2, _⟩ := h
  match cs, h1, h2, hu with
  | [c], _, h2, hu =>
    have e : (⟨c.1, c.2, s⟩ : Seg) = u := Option.some.inj hu
    rw [← e]
    exact (h2 c rfl).2
  | c :: d :: r, _, h2, hu =>
    have e : (⟨c.1, c.2, (d.2 - c.2) / (d.1 - c.1)⟩ : Seg) = u := Option.some.inj hu
    rw [← e]
    exact (h2 c rfl).2
/-- the sum again -/
theorem lastr_keep : ∀ (r : List Seg) (s : Seg), lastr (s :: keep s.r r) = lastr (s :: r)
  | [], s => rfl
  | u :: r, s => by
    show lastr (s :: if u.r = s.r then keep u.r r else u :: keep u.r r) = _
    by_cases e : u.r = s.r
    · rw [if_pos e, e, lastr_keep r s, lastr_cons]
      cases r with
      | nil =>
        show s.r = u.r
        exact e.symm
      | cons v r => rw [lastr_cons, lastr_cons]
    · rw [if_neg e, lastr_cons, lastr_cons, lastr_keep r u]
theorem lastr_bends (l : List Seg) : lastr (bends l) = lastr l := by
  cases l with
  | nil => rfl
  | cons s r => exact lastr_keep r s
theorem lastr_segs {cs : List (Rat × Rat)} {s : Rat} (h : cs ≠ []) : lastr (segs cs s) = s := by
  obtain ⟨m, hm⟩ : ∃ m, m + 1 = cs.length := ⟨cs.length - 1, by have := List.length_pos_iff.mpr h; omega⟩
  have e := lastr_at (l := segs cs s) (i := m) (by rw [segs_len]; exact hm)
  have e2 := segs_last cs s m hm
  rw [List.getElem?_map] at e
  rw [e] at e2
  exact Option.some.inj e2
theorem corn_nonneg {cs : List (Rat × Rat)} (h : Cor cs) : ∀ (i : Nat) (c : Rat × Rat), cs[i]? = some c → 0 ≤ c.1
  | 0, c, hc => by
    rw [(h.2.1 c hc).1]
    exact Rat.le_refl
  | i + 1, c, hc => by
    have hi := (List.getElem?_eq_some_iff.mp hc).1
    have c0 : cs[i]? = some (cs[i]'(by omega)) := List.getElem?_eq_getElem (by omega)
    have ih := corn_nonneg h i _ c0
    have := h.2.2 i _ _ c0 hc
    grind
end

/-! ### Line.corners -/
section
variable {P : Program} {w : World} {K : PySem.W.Frag} {mg : Str → Option Value} {base : Heap}
theorem mon_REq {C : Addr} : ∀ (a b : Addr) (H H' : Hp), Ext H H' → REq C a b H → REq C a b H' := fun a b H H' e ⟨t, c, ra, rb⟩ => ⟨t, c, ra.on e, rb.on e⟩
theorem ins_ref {C : Addr} {R : Addr → Addr → Hp → Prop} (x y : V) (H : Hp) (d : DIns C R x y H) : ∃ a b, x = .ref a ∧ y = .ref b := let ⟨a, b, _, _, _, _, hx, hy, _⟩ := d; ⟨a, b, hx, hy⟩
/-- a tuple of told corners -/
def CorsAt (RC : Addr) (H : Hp) (q : Addr) (l : List Seg) (n : Nat) : Prop := ∃ ts : List Addr, H q = some (.tup (ts.map V.ref)) ∧ ts.length = l.length ∧ ∀ (i : Nat) t s, ts[i]? = some t → l[i]? = some s → ∃ u v, H t = some (.tup [.ref u, .ref v]) ∧ RV RC H u s.x n ∧ RV RC H v s.t n
theorem CorsAt.on {RC : Addr} {H H' : Hp} {q : Addr} {l : List Seg} {n : Nat} (c : CorsAt RC H q l n) (s : Same H H') : CorsAt RC H' q l n := let ⟨ts, e, hl, h⟩ := c; ⟨ts, s _ _ e, hl, fun i t g h1 h2 => let ⟨u, v, e, a, b⟩ := h i t g h1 h2; ⟨u, v, s _ _ e, a.on s, b.on s⟩⟩
def spCornersP (LC RC : Addr) : Sp := fun vs H Q _ => ∃ (p : Addr) (l : List Seg) (n : Nat), vs = [.ref p] ∧ LineAt LC RC H p l n ∧ l.length ≤ 1000 ∧ ∀ q H', Same H H' → CorsAt RC H' q l n → Q (.ref q) H'
theorem ok_cornersP (T : Txt K mg) : FnOk P w K mg base CX0 1 T.f_Line_corners T.d_Line_corners ["self"] (spCornersP T.f_Line T.f_Ratio) := by
  refine T.F_Line_corners.ok sc_Line_corners (fun vs H Q E h => ?_) (fun cdv A outer s H vs Q E hr h => ?_)
  · obtain ⟨p, l, n, rfl, _⟩ := h
    rfl
  · obtain ⟨p, l, n, rfl, hp, hl, k⟩ := h
    refine ⟨_, (pss_one (ps_ret (pe_tupZip rfl (by rfl) T.n_tuple (by rfl) T.n_zip (pa_cons (pe_fld (pv 0) rfl) (pa_cons (pe_fld (pv 0) rfl) pa_nil))))), ?_⟩
    obtain ⟨dx, a, b, c, ep, ⟨pl, el, rl⟩, ⟨pt, et, rt⟩, _⟩ := id hp
    have l1 := rl.1
    have l2 := rt.1
    rw [List.length_map] at l1 l2
    have hz : (1000 : Nat) ≤ sizeLine := by decide
    refine ⟨_, rfl, p, T.f_Line, dx, _, _, rfl, ep, T.cl_Line, T.na_Line_loads, lf_loads _ _ _, _, rfl, p, T.f_Line, dx, _, _, rfl, ep, T.cl_Line, T.na_Line_times, lf_times _ _ _, ?_⟩
    refine ⟨a, b, _, _, rfl, SqT.of el, SqT.of et, by rw [List.length_map, List.length_map, l1, l2], by rw [List.length_map, l1]; omega, fun q ts H' sm eq htl hZ => ?_⟩
    rw [List.length_map] at htl
    refine k q H' sm ⟨ts, eq, htl.trans l1, fun i t g h1 h2 => ?_⟩
    have hi : i < l.length := (List.getElem?_eq_some_iff.mp h2).1
    have e1 : pl[i]? = some (pl[i]'(by omega)) := List.getElem?_eq_getElem (by omega)
    have e2 : pt[i]? = some (pt[i]'(by omega)) := List.getElem?_eq_getElem (by omega)
    refine ⟨_, _, hZ i t _ _ h1 (by rw [List.getElem?_map, e1]; rfl) (by rw [List.getElem?_map, e2]; rfl), (rl.2 i _ _ e1 (by rw [List.getElem?_map, h2]; rfl)).on sm, (rt.2 i _ _ e2 (by rw [List.getElem?_map, h2]; rfl)).on sm⟩
/-- two tuples of the same corners -/
theorem dtup_of {RC : Addr} {K : PySem.W.Frag} {H : Hp} {q q' : Addr} {l : List Seg} {n m : Nat} (c : CorsAt RC H q l n) (c' : CorsAt RC H q' l m) : DTup K (DTup K (DIns RC (REq RC))) (.ref q) (.ref q') H := by
  obtain ⟨ts, e, hl, h⟩ := c
  obtain ⟨ts', e', hl', h'⟩ := c'
  refine ⟨q, q', _, _, rfl, rfl, SqT.of e, SqT.of e', by rw [List.length_map, List.length_map, hl, hl'], fun i x y h1 h2 => ?_⟩
  rw [List.getElem?_map] at h1 h2
  cases e1 : ts[i]? with
  | none => rw [e1] at h1; cases h1
  | some t =>
    cases e2 : ts'[i]? with
    | none => rw [e2] at h2; cases h2
    | some t' =>
      rw [e1] at h1
      rw [e2] at h2
      have h1 := Option.some.inj h1
      have h2 := Option.some.inj h2
      subst h1
      subst h2
      have hi : i < l.length := by rw [← hl]; exact (List.getElem?_eq_some_iff.mp e1).1
      have eg : l[i]? = some l[i] := List.getElem?_eq_getElem hi
      obtain ⟨u, v, et, ru, rv⟩ := h i t _ e1 eg
      obtain ⟨u', v', et', ru', rv'⟩ := h' i t' _ e2 eg
      have one : ∀ {u u' : Addr} {x : Rat}, RV RC H u x n → RV RC H u' x m → DIns RC (REq RC) (.ref u) (.ref u') H := fun {u u'} {x} r r' => by
        obtain ⟨t, b, ra, la, va, _⟩ := r
        obtain ⟨t', b', rb, lb, vb, _⟩ := r'
        obtain ⟨rfl, rfl⟩ := low_unique la lb (by rw [va, vb])
        obtain ⟨dx, hp⟩ := id ra
        obtain ⟨dy, hq⟩ := id rb
        exact ⟨u, u', dx, dy, _, _, rfl, rfl, hp, hq, t, b, ra, rb⟩
      refine ⟨t, t', _, _, rfl, rfl, SqT.of et, SqT.of et', rfl, fun j x y g1 g2 => ?_⟩
      match j, g1, g2 with
      | 0, g1, g2 =>
        obtain rfl := Option.some.inj g1
        obtain rfl := Option.some.inj g2
        exact one ru ru'
      | 1, g1, g2 =>
        obtain rfl := Option.some.inj g1
        obtain rfl := Option.some.inj g2
        exact one rv rv'
      | j + 2, g1, _ => simp at g1
end

/-! ### the corners of a line -/
section
theorem Nice.last {l : List Seg} (h : Nice l) : 0 ≤ lastr l := by
  obtain ⟨m, hm⟩ : ∃ m, m + 1 = l.length := ⟨l.length - 1, by have := List.length_pos_iff.mpr h.gd.ne; omega⟩
  have e := lastr_at hm
  rw [List.getElem?_map, List.getElem?_eq_getElem (by omega)] at e
  rw [← Option.some.inj e]
  exact h.up _ (List.getElem_mem _)
theorem lines_eq {l l' : List Seg} (n1 : Nice l) (n2 : Nice l') (c1 : Can l) (c2 : Can l') (h : ∀ z, 0 ≤ z → ev l z = ev l' z) : l = l' := by
  obtain ⟨u, r, rfl, u0, _⟩ := n1.cons
  obtain ⟨v, q, rfl, v0, _⟩ := n2.cons
  exact uniq _ _ _ _ n1.chn n2.chn c1 c2 (by rw [u0, v0]) fun z hz => h z (by rw [← u0]; exact hz)
def corsOf (l : List Seg) : List (Rat × Rat) := l.map fun u => (u.x, u.t)
theorem segs_cors : ∀ l : List Seg, l ≠ [] → Chn l → segs (corsOf l) (lastr l) = l
  | [], h, _ => absurd rfl h
  | [s], _, _ => rfl
  | s :: u :: r, _, hc => by
    obtain ⟨h1, h2, h3⟩ := hc
    have ih := segs_cors (u :: r) (fun e => nomatch e) h3
    show (⟨s.x, s.t, (u.t - s.t) / (u.x - s.x)⟩ : Seg) :: segs (corsOf (u :: r)) (lastr (s :: u :: r)) = s :: u :: r
    rw [lastr_cons, ih]
    have : (u.t - s.t) / (u.x - s.x) = s.r := by
      unfold Seg.at at h2
      rw [h2]
      have h4 : u.x - s.x ≠ 0 := by grind
      grind
    rw [this]
theorem cor_cors {l : List Seg} (h : Nice l) : Cor (corsOf l) := by
  refine ⟨?_, fun c hc => ?_, fun i c d hc hd => ?_⟩
  · intro e
    exact h.gd.ne (List.map_eq_nil_iff.mp e)
  · unfold corsOf at hc
    rw [List.getElem?_map] at hc
    cases e : l[0]? with
    | none => rw [e] at hc; cases hc
    | some u =>
      rw [e] at hc
      rw [← Option.some.inj hc]
      exact ⟨h.gd.h0 u e, h.t0 u e⟩
  · unfold corsOf at hc hd
    rw [List.getElem?_map] at hc hd
    cases e : l[i]? with
    | none => rw [e] at hc; cases hc
    | some u =>
      cases e2 : l[i + 1]? with
      | none => rw [e2] at hd; cases hd
      | some v =>
        rw [e] at hc
        rw [e2] at hd
        rw [← Option.some.inj hc, ← Option.some.inj hd]
        have key : ∀ (l : List Seg) (i : Nat) (u v : Seg), Chn l → l[i]? = some u → l[i + 1]? = some v → u.x < v.x ∧ v.t = u.at v.x := by
          intro l
          induction l with
          | nil => intro i u v _ h; cases h
          | cons a r ih =>
            intro i u v hc h1 h2
            cases r with
            | nil => cases h2
            | cons b r =>
              cases i with
              | zero =>
                obtain rfl := Option.some.inj h1
                obtain rfl := Option.some.inj h2
                exact ⟨hc.1, hc.2.1⟩
              | succ i => exact ih i u v hc.2.2 h1 h2
        obtain ⟨h1, h2⟩ := key l i u v h.chn e e2
        refine ⟨h1, ?_⟩
        show u.t ≤ v.t
        rw [h2]
        unfold Seg.at
        have h3 : 0 ≤ u.r * (v.x - u.x) := Rat.mul_nonneg (h.up u (List.mem_of_getElem? e)) (by grind)
        grind
theorem Nice.again {l : List Seg} (h : Nice l) (hc : Can l) (hl : l.length ≤ 900) : bends (segs (corsOf l) (lastr l)) = l := by
  have e := segs_cors l h.gd.ne h.chn
  have h1 := nice_of (cor_cors h) h.last (by unfold corsOf; rw [List.length_map]; exact hl)
  refine lines_eq h1 h (can_bends _) hc fun z hz => ?_
  rw [e]
  exact ev_bends h.chn z
end

/-! ### values as data -/
section
variable {P : Program} {w : World} {K : PySem.W.Frag} {mg : Str → Option Value} {base : Heap}
open Classical in
noncomputable def rp (x : Rat) : Int × Int := if h : ∃ p : Int × Int, Low p.1 p.2 ∧ vq p.1 p.2 = x then h.choose else (0, 1)
def RpOk (x : Rat) : Prop := Low (rp x).1 (rp x).2 ∧ vq (rp x).1 (rp x).2 = x
theorem rp_of {t b : Int} {x : Rat} (l : Low t b) (e : vq t b = x) : RpOk x ∧ (rp x).1 = t ∧ (rp x).2 = b := by
  have h : ∃ p : Int × Int, Low p.1 p.2 ∧ vq p.1 p.2 = x := ⟨(t, b), l, e⟩
  have e1 : rp x = h.choose := dif_pos h
  have s := h.choose_spec
  rw [← e1] at s
  obtain ⟨h1, h2⟩ := low_unique s.1 l (by rw [s.2, e])
  exact ⟨s, h1, h2⟩
noncomputable def dR (x : Rat) : PyData := .tuple [.int (rp x).1, .int (rp x).2]
noncomputable def dC (c : Rat × Rat) : PyData := .tuple [dR c.1, dR c.2]
noncomputable def dL (cs : List (Rat × Rat)) : PyData := .list (cs.map dC)
theorem PV.raw {H : Hp} {q : Addr} {x : Rat} {n : Nat} (r : PV H q x n) : RpOk x ∧ H q = some (.tup [.int (rp x).1, .int (rp x).2]) := by
  obtain ⟨t, b, h, l, e, _⟩ := r
  obtain ⟨o, h1, h2⟩ := rp_of l e
  exact ⟨o, by rw [h1, h2]; exact h⟩
theorem PV.dp {K : PySem.W.Frag} {H : Hp} {q : Addr} {x : Rat} {n : Nat} (r : PV H q x n) : Dp K H (.ref q) (dR x) := .tup (SqT.of r.raw.2) (.cons (.int _) (.cons (.int _) .nil))
theorem eqv_dR {x y : Rat} (hx : RpOk x) (hy : RpOk y) : PyData.eqv (dR x) (dR y) = decide (x = y) := by
  by_cases h : x = y
  · subst h
    rw [decide_eq_true rfl]
    simp [dR, PyData.eqv, PyData.eqvAll]
  · rw [decide_eq_false h]
    have : ¬ ((rp x).1 = (rp y).1 ∧ (rp x).2 = (rp y).2) := fun ⟨h1, h2⟩ => h (by rw [← hx.2, ← hy.2, h1, h2])
    simp [dR, PyData.eqv, PyData.eqvAll]
    intro h1 h2
    exact this ⟨h1, h2⟩
theorem lay_R (x : Rat) : (dR x).canLay0 = true := by simp [dR, PyData.canLay0, PyData.canLayAll0]
theorem dep_R (x : Rat) : (dR x).depth = 1 := by simp [dR, PyData.depth, PyData.depthAll]
theorem sh_R (x : Rat) : SeqAt.shaped (dR x) = true := by simp [SeqAt.shaped, lay_R, dep_R]
theorem lay_C (c : Rat × Rat) : (dC c).canLay0 = true := by simp [dC, PyData.canLay0, PyData.canLayAll0, lay_R]
theorem dep_C (c : Rat × Rat) : (dC c).depth = 2 := by simp [dC, PyData.depth, PyData.depthAll, dep_R]
theorem layAll_C : ∀ cs : List (Rat × Rat), PyData.canLayAll0 (cs.map dC) = true
  | [] => by simp [PyData.canLayAll0]
  | c :: r => by simp [PyData.canLayAll0, lay_C, layAll_C r]
theorem depAll_C : ∀ cs : List (Rat × Rat), PyData.depthAll (cs.map dC) ≤ 2
  | [] => by simp [PyData.depthAll]
  | c :: r => by
    have := depAll_C r
    simp [PyData.depthAll, dep_C]
    omega
theorem layAll_R : ∀ cs : List Rat, PyData.canLayAll0 (cs.map dR) = true
  | [] => by simp [PyData.canLayAll0]
  | c :: r => by simp [PyData.canLayAll0, lay_R, layAll_R r]
theorem depAll_R : ∀ cs : List Rat, PyData.depthAll (cs.map dR) ≤ 1
  | [] => by simp [PyData.depthAll]
  | c :: r => by
    have := depAll_R r
    simp [PyData.depthAll, dep_R]
    omega
theorem sh_L (cs : List (Rat × Rat)) : SeqAt.shaped (dL cs) = true := by
  have h1 := depAll_C cs
  simp [SeqAt.shaped, dL, PyData.canLay0, PyData.depth, layAll_C]
  omega
theorem sh_LR (cs : List Rat) : SeqAt.shaped (.list (cs.map dR)) = true := by
  have h1 := depAll_R cs
  simp [SeqAt.shaped, PyData.canLay0, PyData.depth, layAll_R]
  omega
theorem sh_T (cs : List (Rat × Rat)) (s : Rat) : SeqAt.shaped (.tuple [dL cs, dR s]) = true := by
  have h1 := depAll_C cs
  simp [SeqAt.shaped, dL, PyData.canLay0, PyData.canLayAll0, PyData.depth, PyData.depthAll, layAll_C, lay_R, dep_R]
  omega
theorem eqv_L (cs : List (Rat × Rat)) : PyData.eqv (dL cs) (dL cs) = true := by
  have h := sh_L cs
  simp only [SeqAt.shaped, Bool.and_eq_true] at h
  exact SeqAt.eqv_refl _ h.1
theorem eqv_R (x : Rat) : PyData.eqv (dR x) (dR x) = true := SeqAt.eqv_refl _ (lay_R x)
theorem eqv_T (cs : List (Rat × Rat)) (s : Rat) : PyData.eqv (.tuple [dL cs, dR s]) (.tuple [dL cs, dR s]) = true := by
  have h := sh_T cs s
  simp only [SeqAt.shaped, Bool.and_eq_true] at h
  exact SeqAt.eqv_refl _ h.1
theorem dpAll_C {H : Hp} {n : Nat} : ∀ (qs : List Addr) (cs : List (Rat × Rat)), qs.length = cs.length → (∀ (i : Nat) t d, qs[i]? = some t → cs[i]? = some d → ∃ u v, H t = some (.tup [.ref u, .ref v]) ∧ PV H u d.1 n ∧ PV H v d.2 n) → DpAll K H (qs.map V.ref) (cs.map dC)
  | [], [], _, _ => .nil
  | q :: qs, c :: cs, hl, h => by
    obtain ⟨u, v, e, pu, pv⟩ := h 0 q c rfl rfl
    exact .cons (.tup (SqT.of e) (.cons pu.dp (.cons pv.dp .nil))) (dpAll_C qs cs (by simpa using hl) fun i t d h1 h2 => h (i + 1) t d h1 h2)
theorem CorP.dp {H : Hp} {L : Addr} {cs : List (Rat × Rat)} {n : Nat} (r : CorP H L cs n) : Dp K H (.ref L) (dL cs) := by
  obtain ⟨qs, e, hl, h⟩ := r
  exact .lst (SqL.of e) (dpAll_C qs cs hl h)
end

/-! ### what a line tells, as values of the law -/
section
variable {P : Program} {w : World} {K : PySem.W.Frag} {mg : Str → Option Value} {base : Heap}

def Told (H : Hp) (o : Addr) (cs : List (Rat × Rat)) (s : Rat) (n : Nat) : Prop := ∃ L r, H o = some (.tup [.ref L, .ref r]) ∧ CorP H L cs n ∧ PV H r s n
theorem Told.on {H H' : Hp} {o : Addr} {cs : List (Rat × Rat)} {s : Rat} {n : Nat} (t : Told H o cs s n) (sm : Same H H') : Told H' o cs s n := let ⟨L, r, e, a, b⟩ := t; ⟨L, r, sm _ _ e, a.on sm, b.on sm⟩
theorem Told.mono {H : Hp} {o : Addr} {cs : List (Rat × Rat)} {s : Rat} {n m : Nat} (t : Told H o cs s n) (h : n ≤ m) : Told H o cs s m := let ⟨L, r, e, a, b⟩ := t; ⟨L, r, e, a.mono h, b.mono h⟩
theorem Told.dp {H : Hp} {o : Addr} {cs : List (Rat × Rat)} {s : Rat} {n : Nat} (t : Told H o cs s n) : Dp K H (.ref o) (.tuple [dL cs, dR s]) := let ⟨L, r, e, a, b⟩ := t; .tup (SqT.of e) (.cons a.dp (.cons b.dp .nil))
/-- pairs of values in tuples -/
def TupsP (G : Hp) (ts : List Addr) (cs : List (Rat × Rat)) (n : Nat) : Prop := ∀ (i : Nat) t d, ts[i]? = some t → cs[i]? = some d → ∃ u v : Addr, G t = some (.tup [.ref u, .ref v]) ∧ PV G u d.1 n ∧ PV G v d.2 n
theorem TupsP.on {H H' : Hp} {ts : List Addr} {cs : List (Rat × Rat)} {n : Nat} (r : TupsP H ts cs n) (s : Same H H') : TupsP H' ts cs n := fun i t d h1 h2 => let ⟨u, v, e, a, b⟩ := r i t d h1 h2; ⟨u, v, s _ _ e, a.on s, b.on s⟩
theorem TupsP.put {H : Hp} {D : Addr} {xs ys : List V} {ts : List Addr} {cs : List (Rat × Rat)} {n : Nat} (hD : H D = some (.lst xs)) (r : TupsP H ts cs n) : TupsP (upd H D (.lst ys)) ts cs n := fun i t d h1 h2 => by
  obtain ⟨u, v, e, a, b⟩ := r i t d h1 h2
  exact ⟨u, v, by rw [upd_ne (fun z => by rw [z, hD] at e; cases e)]; exact e, a.put hD, b.put hD⟩
theorem TupsP.snoc {G : Hp} {ts : List Addr} {cs : List (Rat × Rat)} {n i : Nat} {t : Addr} {d : Rat × Rat} {u v : Addr} (r : TupsP G ts cs n) (h : ts.length = i) (ci : cs[i]? = some d) (e : G t = some (.tup [.ref u, .ref v])) (a : PV G u d.1 n) (b : PV G v d.2 n) : TupsP G (ts ++ [t]) cs n := fun j t' d' h1 h2 => by
  by_cases hj : j < ts.length
  · rw [List.getElem?_append_left hj] at h1
    exact r j t' d' h1 h2
  · have hj' := (List.getElem?_eq_some_iff.mp h1).1
    rw [List.length_append, List.length_singleton] at hj'
    have e1 : j = ts.length := by omega
    subst e1
    rw [List.getElem?_append_right (Nat.le_refl _), Nat.sub_self] at h1
    rw [h, ci] at h2
    have e2 : t = t' := Option.some.inj h1
    have e3 : d = d' := Option.some.inj h2
    rw [← e2, ← e3]
    exact ⟨u, v, e, a, b⟩
theorem CorP.of {H : Hp} {D : Addr} {ts : List Addr} {cs : List (Rat × Rat)} {n : Nat} (e : H D = some (.lst (ts.map V.ref))) (hl : ts.length = cs.length) (t : TupsP H ts cs n) : CorP H D cs n := ⟨ts, e, hl, t⟩
def spTold (K : PySem.W.Frag) (LC RC : Addr) : Sp := fun vs H Q _ => ∃ (p : Addr) (l : List Seg) (n : Nat), vs = [.ref p] ∧ LineAt LC RC H p l n ∧ l ≠ [] ∧ l.length ≤ 900 ∧ ∀ (o L r : Addr) H', Same H H' → H L = none → H' o = some (.tup [.ref L, .ref r]) → CorP H' L (corsOf l) n → PV H' r (lastr l) n → Q (.ref o) H'
theorem ok_told (T : Txt K mg) : FnOk P w K mg base CX0 3 T.f_told T.d_told ["_law_line_here"] (spTold K T.f_Line T.f_Ratio) := by
  have G_Line_corners : FnOk P w K mg base CX0 1 T.f_Line_corners T.d_Line_corners ["self"] (spCornersP T.f_Line T.f_Ratio) := ok_cornersP T
  have G_Line_slope : FnOk P w K mg base CX0 1 T.f_Line_slope T.d_Line_slope ["self"] (spSlope T.f_Line T.f_Ratio) := ok_slope T
  have G_Ratio_top : FnOk P w K mg base CX0 1 T.f_Ratio_top T.d_Ratio_top ["self"] (spTop T.f_Ratio) := ok_top T
  have G_Ratio_bottom : FnOk P w K mg base CX0 1 T.f_Ratio_bottom T.d_Ratio_bottom ["self"] (spBottom T.f_Ratio) := ok_bottom T
  refine T.F_told.ok sc_told (fun vs H Q E h => ?_) (fun cdv A outer s H vs Q E hr h => ?_)
  · obtain ⟨p, l, n, rfl, _⟩ := h
    rfl
  · obtain ⟨p, l, n, rfl, hp, hne, hl, k⟩ := h
    refine ⟨_, (pss_cons (ps_setLc (i := 1) (own := [("_law_x", 2), ("_law_y", 3)]) (g := gTup K 2 (gCons (gName 2) (gCons (gName 3) gNil))) (tt := tYes) rfl sc_told.nd rfl rfl (sw_true rfl rfl rfl (by decide +kernel)) (pi_tup (pe_prop (pv 0) T.cl_Line T.p_Line_corners G_Line_corners (hr.mono (by decide)) T.b_Line_corners .nil pass0 rfl)) (blkOk_by (N := ["_law_line_here", "_law_bends", "_law_x", "_law_y"]) (sc := defScope s_told) (by decide +kernel)) (fun _ _ _ _ _ => (pg_tup rfl (pgs_cons (pg_name (i := 2) sc_told.nd rfl (Or.inl rfl)) (pgs_cons (pg_name (i := 3) sc_told.nd rfl (Or.inl rfl)) pgs_nil)))) (fun _ _ _ _ _ => pts_nil) (fun _ _ _ _ _ => (pe_tup (pa_cons (pe_tup (pa_cons (pe_prop (pv 2) T.cl_Ratio T.p_Ratio_top G_Ratio_top (hr.mono (by decide)) T.b_Ratio_top .nil pass0 rfl) (pa_cons (pe_prop (pv 2) T.cl_Ratio T.p_Ratio_bottom G_Ratio_bottom (hr.mono (by decide)) T.b_Ratio_bottom .nil pass0 rfl) pa_nil))) (pa_cons (pe_tup (pa_cons (pe_prop (pv 3) T.cl_Ratio T.p_Ratio_top G_Ratio_top (hr.mono (by decide)) T.b_Ratio_top .nil pass0 rfl) (pa_cons (pe_prop (pv 3) T.cl_Ratio T.p_Ratio_bottom G_Ratio_bottom (hr.mono (by decide)) T.b_Ratio_bottom .nil pass0 rfl) pa_nil))) pa_nil)))))
    (pss_one (ps_ret (pe_tup (pa_cons (pv 1) (pa_cons (pe_tup (pa_cons (pe_prop (pe_prop (pv 0) T.cl_Line T.p_Line_slope G_Line_slope (hr.mono (by decide)) T.b_Line_slope .nil pass0 rfl) T.cl_Ratio T.p_Ratio_top G_Ratio_top (hr.mono (by decide)) T.b_Ratio_top .nil pass0 rfl) (pa_cons (pe_prop (pe_prop (pv 0) T.cl_Line T.p_Line_slope G_Line_slope (hr.mono (by decide)) T.b_Line_slope .nil pass0 rfl) T.cl_Ratio T.p_Ratio_bottom G_Ratio_bottom (hr.mono (by decide)) T.b_Ratio_bottom .nil pass0 rfl) pa_nil))) pa_nil)))))), ?_⟩
    obtain ⟨dx, a, b, c, ep, _⟩ := id hp
    have z2 : 2 ≤ sizeLine := by decide
    refine ⟨_, rfl, p, dx, _, rfl, ep, p, l, n, rfl, hp, by omega, fun q H1 s1 cq => ?_⟩
    obtain ⟨ts, eq, htl, hts⟩ := cq
    refine ⟨q, rfl, ⟨_, SqT.of eq⟩, fun D nD => ?_⟩
    refine lc_tup (K := K) (a := q) (xs := ts.map V.ref) (fun i H' => ∃ us : List Addr, H' D = some (.lst (us.map V.ref)) ∧ us.length = i ∧ Same H1 H' ∧ TupsP H' us (corsOf l) n) ⟨[], upd_same, rfl, same_upd nD, fun j t d h => by simp at h⟩ (fun i H' _ ⟨_, _, _, sm, _⟩ => SqT.of (sm _ _ eq)) ?_ ?_
    · intro i x H2 hi ⟨us, eD, hul, s2, hT⟩
      rw [List.getElem?_map] at hi
      cases ht : ts[i]? with
      | none => rw [ht] at hi; cases hi
      | some t =>
        rw [ht] at hi
        obtain rfl := Option.some.inj hi
        have hil : i < l.length := by rw [← htl]; exact (List.getElem?_eq_some_iff.mp ht).1
        have eg : l[i]? = some l[i] := List.getElem?_eq_getElem hil
        obtain ⟨u, v, et, ru, rv⟩ := hts i t _ ht eg
        obtain ⟨tu, bu, ⟨du, eu⟩, lu, vu, zu⟩ := id (ru.on s2)
        obtain ⟨tv, bv, ⟨dv, ev'⟩, lv, vv, zv⟩ := id (rv.on s2)
        refine ⟨_, _, rfl, SqT.of (s2 _ _ et), rfl, _, _, rfl, _, _, rfl, rfl, rfl, ?_⟩
        refine ⟨_, rfl, u, du, _, rfl, eu, u, tu, bu, rfl, ⟨du, eu⟩, _, rfl, u, du, _, rfl, eu, u, tu, bu, rfl, ⟨du, eu⟩, z2, fun T1 n1 => ?_⟩
        have s3 := same_upd (o := .tup [V.int tu, .int bu]) n1
        refine ⟨_, rfl, v, dv, _, rfl, s3 _ _ ev', v, tv, bv, rfl, ⟨dv, s3 _ _ ev'⟩, _, rfl, v, dv, _, rfl, s3 _ _ ev', v, tv, bv, rfl, ⟨dv, s3 _ _ ev'⟩, z2, fun T2 n2 => ?_⟩
        have s4 := same_upd (o := .tup [V.int tv, .int bv]) n2
        refine ⟨z2, fun T3 n3 => ?_⟩
        have s5 := same_upd (o := .tup [V.ref T1, .ref T2]) n3
        have s25 := (s3.trans s4).trans s5
        have eD5 := s25 _ _ eD
        refine ⟨us.map V.ref, eD5, small1000 (by rw [List.length_map]; omega), us ++ [T3], ?_, by rw [List.length_append, hul]; rfl, same_mut (s2.trans s25) nD, ((hT.on s25).snoc (d := (l[i].x, l[i].t)) hul (by unfold corsOf; rw [List.getElem?_map, eg]; rfl) upd_same ⟨tu, bu, s5 _ _ (s4 _ _ upd_same), lu, vu, zu⟩ ⟨tv, bv, s5 _ _ upd_same, lv, vv, zv⟩).put eD5⟩
        rw [upd_same, List.map_append]
        rfl
    rintro H2 ⟨us, eD, hul, s2, hT⟩
    rw [List.length_map, htl] at hul
    have s12 := s1.trans s2
    have hp2 := hp.on s12
    refine ⟨_, rfl, _, rfl, p, dx, _, rfl, s12 _ _ ep, p, l, n, rfl, hp2, hne, fun q3 r3 => ?_⟩
    obtain ⟨t3, b3, ⟨d3, e3⟩, l3, v3, z3⟩ := id r3
    refine ⟨q3, d3, _, rfl, e3, q3, t3, b3, rfl, ⟨d3, e3⟩, ?_⟩
    refine ⟨_, rfl, p, dx, _, rfl, s12 _ _ ep, p, l, n, rfl, hp2, hne, fun q4 r4 => ?_⟩
    obtain ⟨t4, b4, ⟨d4, e4⟩, l4, v4, z4⟩ := id r4
    obtain ⟨rfl, rfl⟩ := low_unique l3 l4 (by rw [v3, v4])
    refine ⟨q4, d4, _, rfl, e4, q4, t3, b3, rfl, ⟨d4, e4⟩, z2, fun T1 n1 => ?_⟩
    have s5 := same_upd (o := .tup [V.int t3, .int b3]) n1
    refine ⟨z2, fun o no => ?_⟩
    have s6 := same_upd (o := .tup [V.ref D, .ref T1]) no
    have s56 := s5.trans s6
    exact k o D T1 _ (s12.trans s56) (s1.free nD) upd_same (.of (s56 _ _ eD) (by rw [hul]; unfold corsOf; rw [List.length_map]) (hT.on s56)) ⟨t3, b3, s6 _ _ upd_same, l3, v3, z3⟩
end

/-! ### the corners that bend -/
section
variable {P : Program} {w : World} {K : PySem.W.Frag} {mg : Str → Option Value} {base : Heap}
def spPlain (K : PySem.W.Frag) : Sp := fun vs H Q _ => ∃ (L r : Addr) (cs : List (Rat × Rat)) (s : Rat) (n : Nat), vs = [.ref L, .ref r] ∧ CorP H L cs n ∧ PV H r s n ∧ Cor cs ∧ n ≤ 900 ∧ cs.length ≤ 900 ∧ ∀ D H', Same H H' → CorP H' D (corsOf (bends (segs cs s))) n → Q (.ref D) H'
theorem seg_at {cs : List (Rat × Rat)} {s : Rat} {i : Nat} {g : Seg} {c : Rat × Rat} (h : (segs cs s)[i]? = some g) (hc : cs[i]? = some c) : (g.x, g.t) = c := by
  have h1 := congrArg (fun l : List Rat => l[i]?) (segs_x cs s)
  have h2 := congrArg (fun l : List Rat => l[i]?) (segs_t cs s)
  simp only [List.getElem?_map, h, hc] at h1 h2
  have h1 : g.x = c.1 := Option.some.inj h1
  have h2 : g.t = c.2 := Option.some.inj h2
  rw [h1, h2]
theorem ok_plain (T : Txt K mg) : FnOk P w K mg base CX0 5 T.f_plain T.d_plain ["_law_bends", "_law_rise"] (spPlain K) := by
  have G_steep : FnOk P w K mg base CX0 4 T.f_steep T.d_steep ["_law_bends", "_law_rise", "_law_k"] (spSteep K) := ok_steep T
  refine T.F_plain.ok sc_plain (fun vs H Q E h => ?_) (fun cdv A outer s H vs Q E hr h => ?_)
  · obtain ⟨L, r, cs, s, n, rfl, _⟩ := h
    rfl
  · obtain ⟨L, r, cs, s, n, rfl, hc, pr, hcor, hn, hl9, k⟩ := h
    refine ⟨_, (pss_cons (ps_set (i := 2) sc_plain.nd rfl (Or.inl rfl) (pe_lst (pa_cons (pe_ix ix_list (pv 0) pe_int (fun _ _ => rfl)) pa_nil)))
    (C8.pss_cut (ps_for PassesOwn.never rfl (pi_range2 rfl T.n_range (pa_cons pe_int (pa_cons (pe_callB call_len_seq (by rfl) T.n_len (by decide +kernel) (pa_cons (pv 0) pa_nil)) pa_nil))) (pg_name (i := 3) sc_plain.nd rfl (Or.inl rfl))
      (pss_one (ps_if (pt_cmpR (op_neD hr.units) (pe_call G_steep (hr.mono (by decide)) rfl T.m_steep T.F_steep.kp T.b_steep .nil pass0 (pa_cons (pv 0) (pa_cons (pv 1) (pa_cons (pe_op op_sub (pv 3) pe_int) pa_nil)))) (pe_call G_steep (hr.mono (by decide)) rfl T.m_steep T.F_steep.kp T.b_steep .nil pass0 (pa_cons (pv 0) (pa_cons (pv 1) (pa_cons (pv 3) pa_nil)))) (nomark _))
      (pss_one (ps_expr (pe_bm PySem.F.plainAttrs_list PySem.F.slot_list_append PySem.F.type_list_append mt_append (pv 2) (pa_cons (pe_ix ix_list (pv 0) (pv 3) (fun _ _ => rfl)) pa_nil))))
      pss_nil)))
    (pss_one (ps_ret (pv 2))))), ?_⟩
    obtain ⟨qs, hL, hql, hqs⟩ := id hc
    have hl0 : 0 < cs.length := List.length_pos_iff.mpr hcor.1
    have hsl : (segs cs s).length = cs.length := segs_len cs s
    have t0 : qs[0]? = some (qs[0]'(by omega)) := List.getElem?_eq_getElem (by omega)
    have at0' : atI (qs.map V.ref) 0 = some (V.ref (qs[0]'(by omega))) := atI_nat (j := 0) (by rw [List.getElem?_map, t0]; rfl)
    have z1 : 1 ≤ sizeLine := by decide
    refine ⟨_, rfl, L, _, 0, _, rfl, rfl, SqL.of hL, at0', z1, fun D nD => ?_⟩
    have g0 : (segs cs s)[0]? = some ((segs cs s)[0]'(by omega)) := List.getElem?_eq_getElem (by omega)
    have c0 : cs[0]? = some cs[0] := List.getElem?_eq_getElem hl0
    refine ⟨fun σ H' => ∃ (x3 : Option V) (us : List Addr), σ = [some (.ref L), some (.ref r), some (.ref D), x3] ∧ Same H H' ∧ H' D = some (.lst (us.map V.ref)) ∧ us.length = (bends (segs cs s)).length ∧ TupsP H' us (corsOf (bends (segs cs s))) n, ?_, ?_⟩
    · refine ⟨_, rfl, L, _, rfl, .inl (SqL.of ((same_upd nD) _ _ hL)), 1, ((qs.map V.ref).length : Nat), rfl, ?_⟩
      have hml : (qs.map V.ref).length = cs.length := by rw [List.length_map, hql]
      refine ⟨⟨by decide, by decide, by omega, by omega⟩, ?_⟩
      have hn1 : (((qs.map V.ref).length : Nat) - (1 : Int)).toNat = cs.length - 1 := by rw [hml]; omega
      rw [hn1]
      have init : (bends ((segs cs s).take 1)) = [(segs cs s)[0]'(by omega)] := by
        rw [take_more (i := 0) g0]
        rfl
      refine for_range (lo := 1) (n := cs.length - 1) (fun i σ H' => ∃ (x3 : Option V) (us : List Addr), σ = [some (.ref L), some (.ref r), some (.ref D), x3] ∧ Same H H' ∧ H' D = some (.lst (us.map V.ref)) ∧ us.length = (bends ((segs cs s).take (i + 1))).length ∧ TupsP H' us (corsOf (bends ((segs cs s).take (i + 1)))) n) ⟨none, [qs[0]'(by omega)], rfl, same_upd nD, upd_same, by rw [init]; rfl, fun i t d h1 h2 => ?_⟩ ?_ (fun σ H' ⟨x3, us, e, sm, eD, hu, hT⟩ => ⟨x3, us, e, sm, eD, by rw [hu, List.take_of_length_le (by omega)], by rw [List.take_of_length_le (by omega)] at hT; exact hT⟩)
      · rw [init] at h2
        cases i with
        | succ i => simp at h1
        | zero =>
          obtain rfl := Option.some.inj h1
          have h2 : ((segs cs s)[0]'(by omega)).x = d.1 ∧ ((segs cs s)[0]'(by omega)).t = d.2 := by
            have := Option.some.inj h2
            rw [← this]
            exact ⟨rfl, rfl⟩
          have e := seg_at g0 c0
          obtain ⟨u, v, et, pu, pv⟩ := hqs 0 _ _ t0 c0
          have e1 : d = cs[0] := by rw [← e]; exact Prod.ext h2.1.symm h2.2.symm
          rw [e1]
          exact ⟨u, v, (same_upd nD) _ _ et, pu.on (same_upd nD), pv.on (same_upd nD)⟩
      · rintro i σ H1 hi ⟨x3, us, rfl, s1, eD, hu, hT⟩
        obtain ⟨gv, gi⟩ : ∃ v, (segs cs s)[i]? = some v := ⟨_, List.getElem?_eq_getElem (by omega)⟩
        obtain ⟨gu, gj⟩ : ∃ v, (segs cs s)[i + 1]? = some v := ⟨_, List.getElem?_eq_getElem (by omega)⟩
        have cj : cs[i + 1]? = some (cs[i + 1]'(by omega)) := List.getElem?_eq_getElem (by omega)
        have tj : qs[i + 1]? = some (qs[i + 1]'(by omega)) := List.getElem?_eq_getElem (by omega)
        have ei : (1 : Int) + (i : Int) - 1 = (i : Int) := by omega
        have ej : (1 : Int) + (i : Int) = ((i + 1 : Nat) : Int) := by omega
        refine ⟨_, rfl, _, rfl, _, rfl, _, _, rfl, rfl, L, r, cs, s, i, n, _, by show [V.ref L, V.ref r, V.int ((1 : Int) + (i : Int) - 1)] = _; rw [ei], hc.on s1, pr.on s1, hcor.2.2, gi, hn, hl9, fun q2 H2 s2 p2 => ?_⟩
        have s12 := s1.trans s2
        refine ⟨_, rfl, _, rfl, _, rfl, L, r, cs, s, i + 1, n, _, by show [V.ref L, V.ref r, V.int ((1 : Int) + (i : Int))] = _; rw [ej], hc.on s12, pr.on s12, hcor.2.2, gj, hn, hl9, fun q3 H3 s3 p3 => ?_⟩
        have s13 := s12.trans s3
        have p2 := p2.on s3
        have s23 := s2.trans s3
        refine ⟨dR _, dR _, p2.dp, p3.dp, sh_R _, sh_R _, _, rfl, ?_⟩
        rw [eqv_dR p2.raw.1 p3.raw.1]
        have hlast : ((segs cs s).take (i + 1)).getLast? = some gv := by rw [take_more gi]; simp
        have step := bends_snoc (u := gu) hlast
        rw [← take_more gj] at step
        by_cases he : gv.r = gu.r
        · rw [decide_eq_true he]
          refine iteF ?_
          rw [if_pos he.symm, List.append_nil] at step
          exact ⟨_, us, rfl, s13, s23 _ _ eD, by rw [step]; exact hu, by rw [step]; exact (hT.on s2).on s3⟩
        · rw [decide_eq_false he]
          refine iteT ?_
          rw [if_neg (Ne.symm he)] at step
          have eD3 := s3 _ _ (s2 _ _ eD)
          have atj : atI (qs.map V.ref) ((1 : Int) + (i : Int)) = some (V.ref (qs[i + 1]'(by omega))) := by rw [ej]; exact atI_nat (by rw [List.getElem?_map, tj]; rfl)
          obtain ⟨u, v, et, pu, pv⟩ := hqs (i + 1) _ _ tj cj
          have e := seg_at gj cj
          have hus : us.length ≤ 900 := by
            have h1 := (bends_sub ((segs cs s).take (i + 1))).length_le
            have h2 := List.length_take_le (i + 1) (segs cs s)
            have h3 := List.length_take_le' (i + 1) (segs cs s)
            omega
          refine ⟨_, rfl, .inl ⟨rfl, _, SqL.of eD3⟩, _, rfl, _, rfl, L, _, _, _, rfl, rfl, SqL.of (s13 _ _ hL), atj, D, _, _, rfl, rfl, eD3, small1000 (by rw [List.length_map]; omega), ?_⟩
          have cu : corsOf (bends ((segs cs s).take (i + 1)) ++ [gu]) = corsOf (bends ((segs cs s).take (i + 1))) ++ [cs[i + 1]'(by omega)] := by
            unfold corsOf
            rw [List.map_append, ← e]
            rfl
          have hlen : us.length = (corsOf (bends ((segs cs s).take (i + 1)))).length := by unfold corsOf; rw [List.length_map]; exact hu
          refine ⟨_, us ++ [qs[i + 1]'(by omega)], rfl, same_mut s13 nD, ?_, by rw [step, List.length_append, List.length_append, hu]; rfl, ?_⟩
          · rw [upd_same, List.map_append]
            rfl
          · rw [step, cu]
            refine TupsP.put eD3 ?_
            refine TupsP.snoc (i := us.length) (d := cs[i + 1]'(by omega)) (fun j t d h1 h2 => ((hT.on s2).on s3) j t d h1 ?_) rfl (by rw [List.getElem?_append_right (by omega), hlen, Nat.sub_self]; rfl) (s13 _ _ et) (pu.on s13) (pv.on s13)
            rw [List.getElem?_append_left (by have := (List.getElem?_eq_some_iff.mp h1).1; omega)] at h2
            exact h2
    rintro σ H1 ⟨x3, us, rfl, s1, eD, hu, hT⟩
    exact ⟨_, rfl, k D H1 s1 (.of eD (by unfold corsOf; rw [List.length_map]; exact hu) hT)⟩
end

/-! ### what is due for corners and a slope; made -/
section
variable {P : Program} {w : World} {K : PySem.W.Frag} {mg : Str → Option Value} {base : Heap}
/-- the first value that is out of range -/
def BadV (uv : List (V × V)) (y : V) (cs : List (Rat × Rat)) (s : Rat) (v : V) : Prop :=
  (∃ c p, cs[0]? = some c ∧ uv[0]? = some p ∧ (c.1 ≠ 0 ∧ v = p.1 ∨ c.1 = 0 ∧ c.2 < 0 ∧ v = p.2 ∨ c.1 = 0 ∧ 0 ≤ c.2 ∧ ∃ i d f q, cs[i]? = some d ∧ cs[i + 1]? = some f ∧ uv[i + 1]? = some q ∧ UpTo cs i ∧ (¬ d.1 < f.1 ∧ v = q.1 ∨ d.1 < f.1 ∧ f.2 < d.2 ∧ v = q.2))) ∨
  Cor cs ∧ s < 0 ∧ v = y
theorem bad_at {cs : List (Rat × Rat)} {i j : Nat} {d f d' f' : Rat × Rat} (h1 : cs[i]? = some d) (h2 : cs[i + 1]? = some f) (u : UpTo cs i) (b : ¬ (d.1 < f.1 ∧ d.2 ≤ f.2)) (h1' : cs[j]? = some d') (h2' : cs[j + 1]? = some f') (u' : UpTo cs j) (b' : ¬ (d'.1 < f'.1 ∧ d'.2 ≤ f'.2)) : i = j := by
  rcases Nat.lt_trichotomy i j with h | h | h
  · exact absurd (u' i d f h h1 h2) b
  · exact h
  · exact absurd (u j d' f' h h1' h2') b'
theorem BadV.cor {uv : List (V × V)} {y : V} {cs : List (Rat × Rat)} {s : Rat} {v : V} (h : BadV uv y cs s v) (c : Cor cs) : s < 0 ∧ v = y := by
  rcases h with ⟨c0, p, hc, _, h⟩ | ⟨_, h⟩
  · obtain ⟨z1, z2⟩ := c.2.1 c0 hc
    rcases h with ⟨h, _⟩ | ⟨_, h, _⟩ | ⟨_, _, i, d, f, q, hd, hf, _, _, h⟩
    · exact absurd z1 h
    · grind
    · obtain ⟨u1, u2⟩ := c.2.2 i d f hd hf
      rcases h with ⟨h, _⟩ | ⟨_, h, _⟩
      · exact absurd u1 h
      · grind
  · exact h
theorem BadV.one {uv : List (V × V)} {y : V} {cs : List (Rat × Rat)} {s : Rat} {v v' : V} (h : BadV uv y cs s v) (h' : BadV uv y cs s v') : v = v' := by
  by_cases c : Cor cs
  · rw [(h.cor c).2, (h'.cor c).2]
  rcases h with ⟨c0, p, hc, hp, h⟩ | ⟨z, _⟩
  rcases h' with ⟨c1, p1, hc1, hp1, h'⟩ | ⟨z, _⟩
  · obtain rfl := Option.some.inj (hc.symm.trans hc1)
    obtain rfl := Option.some.inj (hp.symm.trans hp1)
    rcases h with ⟨h, e⟩ | ⟨h, h2, e⟩ | ⟨h, h2, i, d, f, q, hd, hf, hq, hu, h3⟩
    · rcases h' with ⟨g, e'⟩ | ⟨g, _⟩ | ⟨g, _⟩
      · rw [e, e']
      · exact absurd g h
      · exact absurd g h
    · rcases h' with ⟨g, e'⟩ | ⟨g, g2, e'⟩ | ⟨g, g2, _⟩
      · exact absurd h g
      · rw [e, e']
      · grind
    · rcases h' with ⟨g, e'⟩ | ⟨g, g2, e'⟩ | ⟨g, g2, j, d', f', q', hd', hf', hq', hu', h3'⟩
      · exact absurd h g
      · grind
      · have b1 : ¬ (d.1 < f.1 ∧ d.2 ≤ f.2) := fun z => by rcases h3 with ⟨a, _⟩ | ⟨_, a, _⟩ <;> grind
        have b2 : ¬ (d'.1 < f'.1 ∧ d'.2 ≤ f'.2) := fun z => by rcases h3' with ⟨a, _⟩ | ⟨_, a, _⟩ <;> grind
        obtain rfl := bad_at hd hf hu b1 hd' hf' hu' b2
        obtain rfl := Option.some.inj (hd.symm.trans hd')
        obtain rfl := Option.some.inj (hf.symm.trans hf')
        obtain rfl := Option.some.inj (hq.symm.trans hq')
        rcases h3 with ⟨a, e⟩ | ⟨a, _, e⟩
        · rcases h3' with ⟨_, e'⟩ | ⟨a', _, _⟩
          · rw [e, e']
          · exact absurd a' a
        · rcases h3' with ⟨a', _⟩ | ⟨_, _, e'⟩
          · exact absurd a a'
          · rw [e, e']
  · exact absurd z c
  · exact absurd z c
theorem BadV.some {uv : List (V × V)} {y : V} {cs : List (Rat × Rat)} {s : Rat} {v : V} (h : BadV uv y cs s v) : cs ≠ [] := by
  rintro rfl
  rcases h with ⟨c, p, hc, _⟩ | ⟨c, _⟩
  · cases hc
  · exact c.1 rfl
def spMade (K : PySem.W.Frag) (RC : Addr) : Sp := fun vs H Q _ => ∃ (c : Addr) (y : V) (uv : List (V × V)) (cs : List (Rat × Rat)) (s : Rat) (n m : Nat), vs = [.ref c, y] ∧ CorV K RC H c uv cs n ∧ cs.length ≤ 100 ∧ NV RC H y s m ∧ n ≤ 900 ∧ m ≤ 4 * n + 2 ∧ m ≤ 900 ∧
  (cs = [] → ∀ l H', Same H H' → H l = none → H' l = some (.lst [.str "count", .int 0]) → Q (.ref l) H') ∧ (∀ v, BadV uv y cs s v → ∀ l H', Same H H' → H l = none → H' l = some (.lst [.str "range", v, .bl true]) → Q (.ref l) H') ∧
  (Cor cs → 0 ≤ s → ∀ l o H', Same H H' → H l = none → H' l = some (.lst [.str "line", .ref o]) → Told H' o (corsOf (bends (segs cs s))) (lastr (bends (segs cs s))) (4 * n + 2) → Q (.ref l) H')
theorem ok_made (T : Txt K mg) : FnOk P w K mg base CX0 9 T.f_made T.d_made ["_law_pairs", "_law_rise"] (spMade K T.f_Ratio) := by
  have GX_Line_init : FnOk P w K mg base (L2.CX P w) 7 T.f_Line_init T.d_Line_init ["self", "corners", "slope"] (spLineG K T.f_Line T.f_Ratio T.f_OutOfRange T.f_BadCount) := ok_lineG T
  have G_told := ok_told (P := P) (w := w) (base := base) T
  refine T.F_made.ok sc_made (fun vs H Q E h => ?_) (fun cdv A outer s0 H vs Q E hr h => ?_)
  · obtain ⟨c, y, uv, cs, s, n, m, rfl, _⟩ := h
    rfl
  · obtain ⟨c, y, uv, cs, s, n, m, rfl, hc, hl, hy, hn, hm, hm9, k0, k1, k2⟩ := h
    refine ⟨_, (pss_one (ps_try_asMany rfl rfl sc_made.nd takes0 (fun W pn xe tk _ =>
      (pss_one (ps_ret (pe_lst (pa_cons pe_str (pa_cons (pe_call G_told (hr.mono (by decide)) rfl T.m_told T.F_told.kp T.b_told .nil pass0 (pa_cons (pe_makeS T.mk_Line GX_Line_init (hr.mono (by decide)) rfl T.m_Line T.b_Line_init .nil (fun σ => passAt tk σ) (pa_cons (pv 0) (pa_cons (pv 1) pa_nil))) pa_nil)) pa_nil)))))) (HdsAs.cons (i := 2) rfl rfl ⟨rfl, by decide, .inl T.m_BadCount⟩ (fun a oe cls d pn hz hf =>
      (pss_one (ps_ret (pe_lst (pa_cons pe_str (pa_cons (pe_xf T.xf_BadCount T.no_BadCount_count hz hf (pv 2)) pa_nil)))))) (HdsAs.cons (i := 2) rfl rfl ⟨rfl, by decide, .inl T.m_OutOfRange⟩ (fun a oe cls d pn hz hf =>
      (pss_one (ps_ret (pe_lst (pa_cons pe_str (pa_cons (pe_xf T.xf_OutOfRange T.no_OutOfRange_value hz hf (pv 2)) (pa_cons (pe_callB (call_isEd T.ec_OutOfRange hz hf) (by rfl) T.n_isinstance (by decide +kernel) (pa_cons (pv 2) (pa_cons (pe_glob (v := .ref T.f_ExtralinkError) rfl T.m_ExtralinkError rfl) pa_nil))) pa_nil))))))) HdsAs.nil)))), ?_⟩
    refine ⟨_, rfl, _, rfl, fun p dx np ndx ne => ?_⟩
    have sm : Same H (upd (upd H dx (.own p)) p (.ins T.f_Line dx [])) := (same_upd ndx).trans (same_upd (by rw [upd_ne (Ne.symm ne)]; exact np))
    have hp : (upd (upd H dx (.own p)) p (.ins T.f_Line dx [])) p = some (.ins T.f_Line dx []) := upd_same
    generalize upd (upd H dx (.own p)) p (.ins T.f_Line dx []) = H1 at sm hp ⊢
    refine ⟨p, dx, c, y, uv, cs, s, n, m, rfl, hp, hc.on sm, hl, hy.on sm, hn, hm, hm9, ?_⟩
    generalize hE : (WE (wAsMany _ _ _ _) _) = E1
    have rC : cs = [] → Raised H1 "count" (.int 0) T.f_BadCount E1 := by
      intro hz d H' nd s1 hd
      subst hE
      refine ⟨true, PySem.W.exm_ref T.ec_BadCount.hs T.ec_BadCount.hd T.ox_BadCount.tyC T.es_BadCount_BadCount, fun _ a na => ?_, fun q => nomatch q⟩
      refine ⟨_, rfl, rfl, rfl, d, _, _, rfl, hd, rfl, by show 2 ≤ sizeLine; decide, fun l nl => ?_⟩
      exact k0 hz l _ ((sm.trans s1).trans (same_upd nl)) ((sm.trans s1).free nl) upd_same
    have rV : ∀ v, BadV uv y cs s v → Raised H1 "value" v T.f_OutOfRange E1 := by
      intro v hb d H' nd s1 hd
      subst hE
      refine ⟨false, PySem.W.exm_ref T.ec_BadCount.hs T.ec_BadCount.hd T.ox_BadCount.tyC T.es_OutOfRange_BadCount, (fun q => nomatch q), fun _ => ⟨true, PySem.W.exm_ref T.ec_OutOfRange.hs T.ec_OutOfRange.hd T.ox_OutOfRange.tyC T.es_OutOfRange_OutOfRange, fun _ a na => ?_, fun q => nomatch q⟩⟩
      refine ⟨_, rfl, rfl, rfl, d, _, _, rfl, hd, rfl, _, rfl, .ref T.f_ExtralinkError, .ref T.f_ExtralinkError, true, d, _, rfl, rfl, rfl, .own _, kit_sub T.xi_OutOfRange_ExtralinkError T.xt_OutOfRange_ExtralinkError T.es_OutOfRange_ExtralinkError T.neq_OutOfRange_ExtralinkError, hd, by show 3 ≤ sizeLine; decide, fun l nl => ?_⟩
      exact k1 v hb l _ ((sm.trans s1).trans (same_upd nl)) ((sm.trans s1).free nl) upd_same
    refine ⟨⟨rC, fun c0 q hc0 hq => ⟨fun e => rV _ (.inl ⟨c0, q, hc0, hq, .inl ⟨e, rfl⟩⟩), fun e f => rV _ (.inl ⟨c0, q, hc0, hq, .inr (.inl ⟨e, f, rfl⟩)⟩), fun e f i d g r hd hg hr hu => ⟨fun a => rV _ (.inl ⟨c0, q, hc0, hq, .inr (.inr ⟨e, f, i, d, g, r, hd, hg, hr, hu, .inl ⟨a, rfl⟩⟩)⟩), fun a b => rV _ (.inl ⟨c0, q, hc0, hq, .inr (.inr ⟨e, f, i, d, g, r, hd, hg, hr, hu, .inr ⟨a, b, rfl⟩⟩)⟩)⟩⟩, fun hcor hs H2 hL kp => ?_⟩, fun hcor hs => rV y (.inr ⟨hcor, hs, rfl⟩)⟩
    have s2 : Same H H2 := fun a o ha => kp a o (sm _ _ ha) (ne_of_none ha np)
    have hn1 : bends (segs cs s) ≠ [] := (gd_of hcor (by omega)).ne
    have hn2 : (bends (segs cs s)).length ≤ 900 := by
      have := (bends_sub (segs cs s)).length_le
      rw [segs_len] at this
      omega
    refine ⟨rfl, p, bends (segs cs s), 4 * n + 2, rfl, hL, hn1, hn2, fun o L r H3 s3 nL ho hC hR => ⟨by show 2 ≤ sizeLine; decide, fun l nl => ?_⟩⟩
    have sl := same_upd (o := .lst [V.str "line", .ref o]) nl
    exact k2 hcor hs l o _ ((s2.trans s3).trans sl) ((s2.trans s3).free nl) upd_same ⟨L, r, sl _ _ ho, hC.on sl, hR.on sl⟩
end

/-! ### the law's own word on what is due -/
section
variable {P : Program} {w : World} {K : PySem.W.Frag} {mg : Str → Option Value} {base : Heap}
/-- the answer that is due, in the list at l -/
def DueAt (H : Hp) (l : Addr) (uv : List (V × V)) (y : V) (cs : List (Rat × Rat)) (s : Rat) (n : Nat) : Prop :=
  (cs = [] ∧ H l = some (.lst [.str "count", .int 0])) ∨ (∃ v, BadV uv y cs s v ∧ H l = some (.lst [.str "range", v, .bl true])) ∨ (Cor cs ∧ 0 ≤ s ∧ ∃ o, H l = some (.lst [.str "line", .ref o]) ∧ Told H o (corsOf (bends (segs cs s))) s n)
/-- pairs of values in a list -/
def PairsAt (H : Hp) (P : Addr) (uv : List (V × V)) : Prop := ∃ ts : List Addr, H P = some (.lst (ts.map V.ref)) ∧ ts.length = uv.length ∧ ∀ (i : Nat) t p, ts[i]? = some t → uv[i]? = some p → H t = some (.tup [p.1, p.2])
theorem PairsAt.on {H H' : Hp} {P : Addr} {uv : List (V × V)} (r : PairsAt H P uv) (s : Same H H') : PairsAt H' P uv := let ⟨ts, e, hl, h⟩ := r; ⟨ts, s _ _ e, hl, fun i t p h1 h2 => s _ _ (h i t p h1 h2)⟩
def spDue : Sp := fun vs H Q _ => ∃ (L r P : Addr) (y : V) (uv : List (V × V)) (cs : List (Rat × Rat)) (s : Rat) (n : Nat), vs = [.ref L, .ref r, .ref P, y] ∧ CorP H L cs n ∧ PV H r s n ∧ PairsAt H P uv ∧ uv.length = cs.length ∧ n ≤ 900 ∧ cs.length ≤ 100 ∧
  ∀ l H', Same H H' → H l = none → DueAt H' l uv y cs s n → Q (.ref l) H'
theorem eqv_cs0 (cs : List (Rat × Rat)) : PyData.eqv (dL cs) (.list []) = decide (cs = []) := by
  cases cs with
  | nil => simp [dL, PyData.eqv, PyData.eqvAll]
  | cons c r => simp [dL, PyData.eqv, PyData.eqvAll]
theorem rp_neg {x : Rat} (h : RpOk x) : (rp x).1 < 0 ↔ x < 0 := by
  have e := vq_lt (t := (rp x).1) (b := (rp x).2) (t' := 0) (b' := 1) h.1.1 (by decide)
  rw [(vq_zero (by decide)).mpr rfl, h.2, Int.mul_one, Int.zero_mul] at e
  exact e
theorem rp0 : RpOk 0 ∧ (rp 0).1 = 0 ∧ (rp 0).2 = 1 := rp_of (Low.one 0) ((vq_zero (by decide)).mpr rfl)
theorem dR0 : dR 0 = .tuple [.int 0, .int 1] := by unfold dR; rw [rp0.2.1, rp0.2.2]
theorem ok_due (T : Txt K mg) : FnOk P w K mg base CX0 6 T.f_due T.d_due ["_law_bends", "_law_rise", "_law_pairs", "_law_given"] spDue := by
  have G_less : FnOk P w K mg base CX0 1 T.f_less T.d_less ["_law_one", "_law_two"] spLessV := okv_less T
  have G_plain := ok_plain (P := P) (w := w) (base := base) T
  refine T.F_due.ok sc_due (fun vs H Q E h => ?_) (fun cdv A outer s0 H vs Q E hr h => ?_)
  · obtain ⟨L, r, P, y, uv, cs, s, n, rfl, _⟩ := h
    rfl
  · obtain ⟨L, r, P, y, uv, cs, s, n, rfl, hC, hR, hP, hu, hn, hl, k⟩ := h
    refine ⟨_, (pss_cons (ps_if (pt_cmpR (op_eqD hr.units) (pv 0) (pe_lst pa_nil) (nomark _))
      (pss_one (ps_ret (pe_lst (pa_cons pe_str (pa_cons pe_int pa_nil)))))
      pss_nil)
    (C8.pss_cut (ps_for PassesOwn.never rfl (pi_range1 rfl T.n_range (pa_cons (pe_callB call_len_seq (by rfl) T.n_len (by decide +kernel) (pa_cons (pv 0) pa_nil)) pa_nil)) (pg_name (i := 4) sc_due.nd rfl (Or.inl rfl))
      (pss_cons (ps_asg (pe_ix ix_list (pv 0) (pv 4) (fun _ _ => rfl)) (pg_tup rfl (pgs_cons (pg_name (i := 5) sc_due.nd rfl (Or.inl rfl)) (pgs_cons (pg_name (i := 6) sc_due.nd rfl (Or.inl rfl)) pgs_nil))))
    (pss_cons (ps_if (PW.pt (pw_or (PW.pt (pw_and (pt_cmpR op_eq (pv 4) pe_int (nomark _)) (pw_and1 (pt_cmpR (op_neD hr.units) (pv 5) (pe_tup (pa_cons pe_int (pa_cons pe_int pa_nil))) (nomark _))))) (pw_or1 (PW.pt (pw_and (pt_cmpR op_gt (pv 4) pe_int (nomark _)) (pw_and1 (pt_not (pt_val (pe_call G_less (hr.mono (by decide)) rfl T.m_less T.F_less.kp T.b_less .nil pass0 (pa_cons (pe_ix ix_tup (pe_ix ix_list (pv 0) (pe_op op_sub (pv 4) pe_int) (fun _ _ => rfl)) pe_int (fun _ _ => rfl)) (pa_cons (pv 5) pa_nil)))))))))))
      (pss_one (ps_ret (pe_lst (pa_cons pe_str (pa_cons (pe_ix ix_tup (pe_ix ix_list (pv 2) (pv 4) (fun _ _ => rfl)) pe_int (fun _ _ => rfl)) (pa_cons pe_bl pa_nil))))))
      pss_nil)
    (pss_one (ps_if (PW.pt (pw_or (PW.pt (pw_and (pt_cmpR op_eq (pv 4) pe_int (nomark _)) (pw_and1 (pt_cmpR op_lt (pe_ix ix_tup (pv 6) pe_int (fun _ _ => rfl)) pe_int (nomark _))))) (pw_or1 (PW.pt (pw_and (pt_cmpR op_gt (pv 4) pe_int (nomark _)) (pw_and1 (pt_val (pe_call G_less (hr.mono (by decide)) rfl T.m_less T.F_less.kp T.b_less .nil pass0 (pa_cons (pv 6) (pa_cons (pe_ix ix_tup (pe_ix ix_list (pv 0) (pe_op op_sub (pv 4) pe_int) (fun _ _ => rfl)) pe_int (fun _ _ => rfl)) pa_nil))))))))))
      (pss_one (ps_ret (pe_lst (pa_cons pe_str (pa_cons (pe_ix ix_tup (pe_ix ix_list (pv 2) (pv 4) (fun _ _ => rfl)) pe_int (fun _ _ => rfl)) (pa_cons pe_bl pa_nil))))))
      pss_nil)))))
    (pss_cons (ps_if (pt_cmpR op_lt (pe_ix ix_tup (pv 1) pe_int (fun _ _ => rfl)) pe_int (nomark _))
      (pss_one (ps_ret (pe_lst (pa_cons pe_str (pa_cons (pv 3) (pa_cons pe_bl pa_nil))))))
      pss_nil)
    (pss_one (ps_ret (pe_lst (pa_cons pe_str (pa_cons (pe_tup (pa_cons (pe_call G_plain (hr.mono (by decide)) rfl T.m_plain T.F_plain.kp T.b_plain .nil pass0 (pa_cons (pv 0) (pa_cons (pv 1) pa_nil))) (pa_cons (pv 1) pa_nil))) pa_nil)))))))), ?_⟩
    refine ⟨_, rfl, Nat.zero_le _, fun z0 nz0 => ?_⟩
    have sz := same_upd (o := .lst []) nz0
    have hz0 : (upd H z0 (.lst [])) z0 = some (.lst []) := upd_same
    have hC0 := hC.on sz
    have hR0 := hR.on sz
    have hP0 := hP.on sz
    have z2 : 2 ≤ sizeLine := by decide
    have z3 : 3 ≤ sizeLine := by decide
    generalize upd H z0 (.lst []) = H0 at sz hz0 hC0 hR0 hP0 ⊢
    refine ⟨_, _, hC0.dp, .lst (SqL.of hz0) .nil, sh_L cs, by decide +kernel, _, rfl, ?_⟩
    rw [eqv_cs0]
    by_cases hne : cs = []
    · rw [decide_eq_true hne]
      refine iteT ?_
      refine ⟨z2, fun l nl => ?_⟩
      exact k l _ (sz.trans (same_upd nl)) (sz.free nl) (.inl ⟨hne, upd_same⟩)
    · rw [decide_eq_false hne]
      refine iteF ?_
      obtain ⟨qs, eL, hql, hqs⟩ := id hC0
      have hl0 : 0 < cs.length := List.length_pos_iff.mpr hne
      have c0 : cs[0]? = some cs[0] := List.getElem?_eq_getElem hl0
      refine ⟨fun σ H' => ∃ x4 x5 x6 : Option V, σ = [some (.ref L), some (.ref r), some (.ref P), some y, x4, x5, x6] ∧ Same H0 H' ∧ Cor cs, ?_, ?_⟩
      · have hml : (qs.map V.ref).length = cs.length := by rw [List.length_map, hql]
        refine ⟨_, rfl, L, _, rfl, .inl (SqL.of eL), ((cs.length : Nat) : Int), by rw [hml], by omega, by omega, ?_⟩
        refine for_range (lo := 0) (n := cs.length) (fun i σ H' => ∃ x4 x5 x6 : Option V, σ = [some (.ref L), some (.ref r), some (.ref P), some y, x4, x5, x6] ∧ Same H0 H' ∧ (0 < i → cs[0].1 = 0 ∧ 0 ≤ cs[0].2) ∧ UpTo cs (i - 1)) ⟨_, _, _, rfl, .refl _, fun h => absurd h (by decide), fun j c d h => absurd h (by omega)⟩ ?_ ?_
        · rintro i σ H1 hi ⟨x4, x5, x6, rfl, s1, g0, gu⟩
          have ti : qs[i]? = some (qs[i]'(by omega)) := List.getElem?_eq_getElem (by omega)
          have ci : cs[i]? = some (cs[i]'(by omega)) := List.getElem?_eq_getElem (by omega)
          have ui : uv[i]? = some (uv[i]'(by omega)) := List.getElem?_eq_getElem (by omega)
          obtain ⟨u, v, et, pu, pv⟩ := hqs i _ _ ti ci
          have ei : (0 : Int) + (i : Int) = (i : Int) := by omega
          have ati : atI (qs.map V.ref) ((0 : Int) + (i : Int)) = some (V.ref (qs[i]'(by omega))) := by rw [ei]; exact atI_nat (by rw [List.getElem?_map, ti]; rfl)
          obtain ⟨ps, eP, hpl, hps⟩ := id hP0
          have pi : ps[i]? = some (ps[i]'(by omega)) := List.getElem?_eq_getElem (by omega)
          have epi := hps i _ _ pi ui
          have atp : atI (ps.map V.ref) ((0 : Int) + (i : Int)) = some (V.ref (ps[i]'(by omega))) := by rw [ei]; exact atI_nat (by rw [List.getElem?_map, pi]; rfl)
          refine ⟨_, rfl, _, rfl, L, _, _, _, rfl, rfl, SqL.of (s1 _ _ eL), ati, ?_⟩
          refine ⟨_, _, rfl, SqT.of (s1 _ _ et), rfl, _, _, rfl, _, _, rfl, rfl, ?_⟩
          cases i with
          | zero =>
            refine ⟨_, rfl, rfl, _, rfl, ?_⟩
            rw [show decide (V.int (0 + ((0 : Nat) : Int)) = V.int 0) = true from rfl]
            refine iteT ?_
            refine ⟨_, rfl, z2, fun t1 n1 => ?_⟩
            have s2 := same_upd (o := .tup [V.int 0, .int 1]) n1
            have ht1 : (upd H1 t1 (.tup [V.int 0, .int 1])) t1 = some (.tup [V.int 0, .int 1]) := upd_same
            generalize upd H1 t1 (.tup [V.int 0, .int 1]) = H2 at s2 ht1 ⊢
            have s12 := s1.trans s2
            refine ⟨_, _, (pu.on s12).dp, .tup (SqT.of ht1) (.cons (.int _) (.cons (.int _) .nil)), sh_R _, by decide +kernel, _, rfl, ?_⟩
            rw [← dR0, eqv_dR (pu.on s12).raw.1 rp0.1]
            by_cases f1 : cs[0].1 = 0
            · rw [decide_eq_true f1]
              refine iteF ?_
              refine ⟨_, rfl, _, _, rfl, rfl, _, rfl, ?_⟩
              rw [show decide ((0 : Int) < 0 + ((0 : Nat) : Int)) = false from rfl]
              refine iteF ?_
              refine ⟨_, rfl, rfl, _, rfl, ?_⟩
              rw [show decide (V.int (0 + ((0 : Nat) : Int)) = V.int 0) = true from rfl]
              refine iteT ?_
              have rv := (pv.on s12).raw
              refine ⟨_, rfl, _, _, _, _, rfl, rfl, SqT.of rv.2, rfl, _, _, rfl, rfl, _, rfl, ?_⟩
              by_cases f2 : cs[0].2 < 0
              · rw [decide_eq_true ((rp_neg rv.1).mpr f2)]
                refine iteT ?_
                refine ⟨_, rfl, _, rfl, P, _, _, _, rfl, rfl, SqL.of (s12 _ _ eP), atp, ?_⟩
                refine ⟨_, _, _, _, rfl, rfl, SqT.of (s12 _ _ epi), rfl, z3, fun l nl => ?_⟩
                exact k l _ ((sz.trans s12).trans (same_upd nl)) ((sz.trans s12).free nl) (.inr (.inl ⟨_, .inl ⟨_, _, c0, ui, .inr (.inl ⟨f1, f2, rfl⟩)⟩, upd_same⟩))
              · rw [decide_eq_false (fun z => f2 ((rp_neg rv.1).mp z))]
                refine iteF ?_
                refine ⟨_, rfl, _, _, rfl, rfl, _, rfl, ?_⟩
                rw [show decide ((0 : Int) < 0 + ((0 : Nat) : Int)) = false from rfl]
                refine iteF ?_
                exact ⟨_, _, _, rfl, s12, fun _ => ⟨f1, Rat.not_lt.mp f2⟩, fun j c d h => absurd h (by omega)⟩
            · rw [decide_eq_false f1]
              refine iteT ?_
              refine ⟨_, rfl, _, rfl, P, _, _, _, rfl, rfl, SqL.of (s12 _ _ eP), atp, ?_⟩
              refine ⟨_, _, _, _, rfl, rfl, SqT.of (s12 _ _ epi), rfl, z3, fun l nl => ?_⟩
              exact k l _ ((sz.trans s12).trans (same_upd nl)) ((sz.trans s12).free nl) (.inr (.inl ⟨_, .inl ⟨_, _, c0, ui, .inl ⟨f1, rfl⟩⟩, upd_same⟩))
          | succ j =>
            have g1 := g0 (by omega)
            refine ⟨_, rfl, rfl, _, rfl, ?_⟩
            rw [show decide (V.int (0 + ((j + 1 : Nat) : Int)) = V.int 0) = false from decide_eq_false (fun z => by injection z with z; omega)]
            refine iteF ?_
            refine ⟨_, rfl, _, _, rfl, rfl, _, rfl, ?_⟩
            rw [show decide ((0 : Int) < 0 + ((j + 1 : Nat) : Int)) = true from decide_eq_true (by omega)]
            refine iteT ?_
            have tj : qs[j]? = some (qs[j]'(by omega)) := List.getElem?_eq_getElem (by omega)
            have cj : cs[j]? = some (cs[j]'(by omega)) := List.getElem?_eq_getElem (by omega)
            obtain ⟨uj, vj, ej, puj, pvj⟩ := hqs j _ _ tj cj
            have atj : atI (qs.map V.ref) ((0 : Int) + ((j + 1 : Nat) : Int) - 1) = some (V.ref (qs[j]'(by omega))) := by rw [show (0 : Int) + ((j + 1 : Nat) : Int) - 1 = ((j : Nat) : Int) by omega]; exact atI_nat (by rw [List.getElem?_map, tj]; rfl)
            have hup : UpTo cs j := gu
            refine ⟨_, rfl, _, rfl, _, _, rfl, rfl, L, _, _, _, rfl, rfl, SqL.of (s1 _ _ eL), atj, ?_⟩
            refine ⟨_, _, _, _, rfl, rfl, SqT.of (s1 _ _ ej), rfl, ?_⟩
            refine ⟨_, rfl, uj, u, _, _, n, n, rfl, puj.on s1, pu.on s1, by omega, by omega, ?_⟩
            refine ⟨_, rfl, ?_⟩
            have uj1 : uv[j + 1]? = some (uv[j + 1]'(by omega)) := ui
            by_cases f1 : (cs[j]'(by omega)).1 < (cs[j + 1]'(by omega)).1
            · rw [decide_eq_true f1]
              refine iteF ?_
              refine ⟨_, rfl, rfl, _, rfl, ?_⟩
              rw [show decide (V.int (0 + ((j + 1 : Nat) : Int)) = V.int 0) = false from decide_eq_false (fun z => by injection z with z; omega)]
              refine iteF ?_
              refine ⟨_, rfl, _, _, rfl, rfl, _, rfl, ?_⟩
              rw [show decide ((0 : Int) < 0 + ((j + 1 : Nat) : Int)) = true from decide_eq_true (by omega)]
              refine iteT ?_
              refine ⟨_, rfl, _, rfl, _, rfl, _, _, rfl, rfl, L, _, _, _, rfl, rfl, SqL.of (s1 _ _ eL), atj, ?_⟩
              refine ⟨_, _, _, _, rfl, rfl, SqT.of (s1 _ _ ej), rfl, ?_⟩
              refine ⟨v, vj, _, _, n, n, rfl, pv.on s1, pvj.on s1, by omega, by omega, ?_⟩
              refine ⟨_, rfl, ?_⟩
              by_cases f2 : (cs[j + 1]'(by omega)).2 < (cs[j]'(by omega)).2
              · rw [decide_eq_true f2]
                refine iteT ?_
                refine ⟨_, rfl, _, rfl, P, _, _, _, rfl, rfl, SqL.of (s1 _ _ eP), atp, ?_⟩
                refine ⟨_, _, _, _, rfl, rfl, SqT.of (s1 _ _ epi), rfl, z3, fun l nl => ?_⟩
                exact k l _ ((sz.trans s1).trans (same_upd nl)) ((sz.trans s1).free nl) (.inr (.inl ⟨_, .inl ⟨_, _, c0, List.getElem?_eq_getElem (by omega), .inr (.inr ⟨g1.1, g1.2, j, _, _, _, cj, ci, ui, hup, .inr ⟨f1, f2, rfl⟩⟩)⟩, upd_same⟩))
              · rw [decide_eq_false f2]
                refine iteF ?_
                refine ⟨_, _, _, rfl, s1, fun _ => g1, fun i' c d h hc hd => ?_⟩
                rcases Nat.lt_or_ge i' j with h' | h'
                · exact hup i' c d h' hc hd
                · obtain rfl : i' = j := by omega
                  rw [cj] at hc
                  rw [ci] at hd
                  rw [← Option.some.inj hc, ← Option.some.inj hd]
                  exact ⟨f1, Rat.not_lt.mp f2⟩
            · rw [decide_eq_false f1]
              refine iteT ?_
              refine ⟨_, rfl, _, rfl, P, _, _, _, rfl, rfl, SqL.of (s1 _ _ eP), atp, ?_⟩
              refine ⟨_, _, _, _, rfl, rfl, SqT.of (s1 _ _ epi), rfl, z3, fun l nl => ?_⟩
              exact k l _ ((sz.trans s1).trans (same_upd nl)) ((sz.trans s1).free nl) (.inr (.inl ⟨_, .inl ⟨_, _, c0, List.getElem?_eq_getElem (by omega), .inr (.inr ⟨g1.1, g1.2, j, _, _, _, cj, ci, ui, hup, .inl ⟨f1, rfl⟩⟩)⟩, upd_same⟩))
        · rintro σ H1 ⟨x4, x5, x6, rfl, s1, g0, gu⟩
          refine ⟨x4, x5, x6, rfl, s1, hne, fun c hc => ?_, fun i c d hc hd => ?_⟩
          · rw [c0] at hc
            rw [← Option.some.inj hc]
            exact g0 hl0
          · have := (List.getElem?_eq_some_iff.mp hd).1
            exact gu i c d (by omega) hc hd
      · rintro σ H1 ⟨x4, x5, x6, rfl, s1, hcor⟩
        have rr := (hR0.on s1).raw
        refine ⟨_, rfl, _, _, _, _, rfl, rfl, SqT.of rr.2, rfl, _, _, rfl, rfl, _, rfl, ?_⟩
        by_cases f2 : s < 0
        · rw [decide_eq_true ((rp_neg rr.1).mpr f2)]
          refine iteT ?_
          refine ⟨_, rfl, z3, fun l nl => ?_⟩
          exact k l _ ((sz.trans s1).trans (same_upd nl)) ((sz.trans s1).free nl) (.inr (.inl ⟨_, .inr ⟨hcor, f2, rfl⟩, upd_same⟩))
        · rw [decide_eq_false (fun z => f2 ((rp_neg rr.1).mp z))]
          refine iteF ?_
          refine ⟨_, rfl, _, rfl, L, r, cs, s, n, rfl, hC0.on s1, hR0.on s1, hcor, hn, by omega, fun D H2 s2 hD => ?_⟩
          refine ⟨_, rfl, z2, fun o no => ?_⟩
          have s3 := same_upd (o := .tup [V.ref D, .ref r]) no
          refine ⟨z2, fun l nl => ?_⟩
          have s4 := same_upd (o := .lst [V.str "line", .ref o]) nl
          have s14 := (s1.trans s2).trans (s3.trans s4)
          exact k l _ (sz.trans s14) ((sz.trans ((s1.trans s2).trans s3)).free nl) (.inr (.inr ⟨hcor, Rat.not_lt.mp f2, o, upd_same, D, r, s4 _ _ upd_same, (hD.on s3).on s4, hR0.on s14⟩))
end

/-! ### a corner spoiled -/
section
variable {P : Program} {w : World} {K : PySem.W.Frag} {mg : Str → Option Value} {base : Heap}
def spSpoiled : Sp := fun vs H Q _ => ∃ (st L r : Addr) (m : Nat) (G : Hp) (cs : List (Rat × Rat)) (s : Rat) (n : Nat), vs = [.ref st, .ref L, .ref r] ∧ DSt G H st m ∧ m + 6 < 1000000 ∧ CorP G L cs n ∧ PV G r s n ∧ cs ≠ [] ∧ cs.length ≤ 90 ∧ n ≤ 900 ∧
  ∀ (o L' r' : Addr) (cs' : List (Rat × Rat)) (s' : Rat) H' G', Same G G' → DSt G' H' st (m + 6) → G' o = some (.tup [.ref L', .ref r']) → CorP G' L' cs' (n + 7) → cs' ≠ [] → cs'.length = cs.length → PV G' r' s' (n + 7) → Q (.ref o) H'
theorem pv_int {H : Hp} {z : Addr} {i : Int} {n : Nat} (h : H z = some (.tup [.int i, .int 1])) (hi : i.natAbs < 2 ^ n) (hn : 1 ≤ n) : PV H z (vq i 1) n := ⟨i, 1, h, Low.one i, rfl, hi, by
  have := Nat.pow_le_pow_right (n := 2) (by decide) hn
  show (1 : Nat) < 2 ^ n
  omega⟩
theorem cut_take (xs : List V) (k : Nat) : cutV xs none (some (k : Int)) = xs.take k := by
  unfold cutV
  rw [HT.sIx_none, HT.sIx_nat, List.drop_zero, Nat.sub_zero]
  by_cases h : k ≤ xs.length
  · rw [Nat.min_eq_left h]
  · rw [Nat.min_eq_right (by omega), List.take_of_length_le (Nat.le_refl _), List.take_of_length_le (by omega)]
theorem cut_drop (xs : List V) (k : Nat) : cutV xs (some (k : Int)) none = xs.drop k := by
  unfold cutV
  rw [HT.sIx_none, HT.sIx_nat]
  by_cases h : k ≤ xs.length
  · rw [Nat.min_eq_left h, List.take_of_length_le (by rw [List.length_drop]; omega)]
  · rw [Nat.min_eq_right (by omega), List.drop_of_length_le (Nat.le_refl _), List.drop_of_length_le (by omega), List.take_nil]
def SpSt (st L r : Addr) (pl : Int) (kn : Nat) (ch : Addr) (G3 : Hp) (m n : Nat) (σ : L2.St) (H' : Hp) : Prop := ∃ (u v : Addr) (x y : Rat) (G' : Hp), σ = [some (.ref st), some (.ref L), some (.ref r), some (.int pl), some (.int ((kn : Nat) : Int)), some (.ref u), some (.ref v), some (.ref ch)] ∧ DSt G' H' st (m + 4) ∧ Same G3 G' ∧ PV G' u x n ∧ PV G' v y n
theorem ok_spoiled (T : Txt K mg) : FnOk P w K mg base CX0 4 T.f_spoiled T.d_spoiled ["_law_state", "_law_bends", "_law_rise"] spSpoiled := by
  have G_draw : FnOk P w K mg base CX0 1 T.f_draw T.d_draw ["_law_state", "_law_size"] spDraw := ok_draw T
  have G_low : FnOk P w K mg base CX0 1 T.f_low T.d_low ["_law_up", "_law_down"] spLowV := okv_low T
  have G_minus : FnOk P w K mg base CX0 3 T.f_minus T.d_minus ["_law_one", "_law_two"] spMinusV := okv_minus T
  have G_plus : FnOk P w K mg base CX0 2 T.f_plus T.d_plus ["_law_one", "_law_two"] spPlusV := okv_plus T
  refine T.F_spoiled.ok sc_spoiled (fun vs H Q E h => ?_) (fun cdv A outer s0 H vs Q E hr h => ?_)
  · obtain ⟨st, L, r, m, G, cs, s, n, rfl, _⟩ := h
    rfl
  · obtain ⟨st, L, r, m, G, cs, s, n, rfl, d, hm, hC, hR, hne, hl, hn, k⟩ := h
    refine ⟨_, (pss_cons (ps_set (i := 3) sc_spoiled.nd rfl (Or.inl rfl) (pe_call G_draw (hr.mono (by decide)) rfl T.m_draw T.F_draw.kp T.b_draw .nil pass0 (pa_cons (pv 0) (pa_cons pe_int pa_nil))))
    (pss_cons (ps_set (i := 4) sc_spoiled.nd rfl (Or.inl rfl) (pe_call G_draw (hr.mono (by decide)) rfl T.m_draw T.F_draw.kp T.b_draw .nil pass0 (pa_cons (pv 0) (pa_cons (pe_callB call_len_seq (by rfl) T.n_len (by decide +kernel) (pa_cons (pv 1) pa_nil)) pa_nil))))
    (pss_cons (ps_asg (pe_ix ix_list (pv 1) (pv 4) (fun _ _ => rfl)) (pg_tup rfl (pgs_cons (pg_name (i := 5) sc_spoiled.nd rfl (Or.inl rfl)) (pgs_cons (pg_name (i := 6) sc_spoiled.nd rfl (Or.inl rfl)) pgs_nil))))
    (pss_cons (ps_set (i := 7) sc_spoiled.nd rfl (Or.inl rfl) (pe_call G_low (hr.mono (by decide)) rfl T.m_low T.F_low.kp T.b_low .nil pass0 (pa_cons (pe_call G_draw (hr.mono (by decide)) rfl T.m_draw T.F_draw.kp T.b_draw .nil pass0 (pa_cons (pv 0) (pa_cons pe_int pa_nil))) (pa_cons (pe_op op_add pe_int (pe_call G_draw (hr.mono (by decide)) rfl T.m_draw T.F_draw.kp T.b_draw .nil pass0 (pa_cons (pv 0) (pa_cons pe_int pa_nil)))) pa_nil))))
    (C8.pss_cut (ps_if (pt_cmpR op_eq (pv 3) pe_int (nomark _))
      (pss_one (ps_set (i := 5) sc_spoiled.nd rfl (Or.inl rfl) (pe_call G_minus (hr.mono (by decide)) rfl T.m_minus T.F_minus.kp T.b_minus .nil pass0 (pa_cons (pe_ix ix_tup (pe_ix ix_list (pv 1) (pe_callB (call_max2 rfl) (by rfl) T.n_max (by decide +kernel) (pa_cons pe_int (pa_cons (pe_op op_sub (pv 4) pe_int) pa_nil))) (fun _ _ => rfl)) pe_int (fun _ _ => rfl)) (pa_cons (pv 7) pa_nil)))))
      pss_nil)
    (C8.pss_cut (ps_if (pt_cmpR op_eq (pv 3) pe_int (nomark _))
      (pss_one (ps_set (i := 6) sc_spoiled.nd rfl (Or.inl rfl) (pe_call G_minus (hr.mono (by decide)) rfl T.m_minus T.F_minus.kp T.b_minus .nil pass0 (pa_cons (pe_ix ix_tup (pe_ix ix_list (pv 1) (pe_callB (call_max2 rfl) (by rfl) T.n_max (by decide +kernel) (pa_cons pe_int (pa_cons (pe_op op_sub (pv 4) pe_int) pa_nil))) (fun _ _ => rfl)) pe_int (fun _ _ => rfl)) (pa_cons (pv 7) pa_nil)))))
      pss_nil)
    (pss_cons (ps_if (pt_cmpR op_eq (pv 3) pe_int (nomark _))
      (pss_one (ps_ret (pe_tup (pa_cons (pv 1) (pa_cons (pe_tup (pa_cons (pe_op op_sub (pe_un un_neg pe_int) (pe_call G_draw (hr.mono (by decide)) rfl T.m_draw T.F_draw.kp T.b_draw .nil pass0 (pa_cons (pv 0) (pa_cons pe_int pa_nil)))) (pa_cons (pe_op op_add pe_int (pe_call G_draw (hr.mono (by decide)) rfl T.m_draw T.F_draw.kp T.b_draw .nil pass0 (pa_cons (pv 0) (pa_cons pe_int pa_nil)))) pa_nil))) pa_nil)))))
      pss_nil)
    (C8.pss_cut (ps_if (pt_cmpR op_eq (pv 3) pe_int (nomark _))
      (pss_one (ps_set (i := 5) sc_spoiled.nd rfl (Or.inl rfl) (pe_call G_plus (hr.mono (by decide)) rfl T.m_plus T.F_plus.kp T.b_plus .nil pass0 (pa_cons (pv 5) (pa_cons (pv 7) pa_nil)))))
      pss_nil)
    (C8.pss_cut (ps_if (pt_cmpR op_eq (pv 3) pe_int (nomark _))
      (pss_one (ps_set (i := 6) sc_spoiled.nd rfl (Or.inl rfl) (pe_tup (pa_cons (pe_op op_sub (pe_un un_neg pe_int) (pe_ix ix_tup (pv 7) pe_int (fun _ _ => rfl))) (pa_cons pe_int pa_nil)))))
      pss_nil)
    (pss_one (ps_ret (pe_tup (pa_cons (pe_op op_cat (pe_op op_cat (pe_slice sl_list (pv 1) po_none (po_some (pv 4))) (pe_lst (pa_cons (pe_tup (pa_cons (pv 5) (pa_cons (pv 6) pa_nil))) pa_nil))) (pe_slice sl_list (pv 1) (po_some (pe_op op_add (pv 4) pe_int)) po_none)) (pa_cons (pv 2) pa_nil)))))))))))))), ?_⟩
    have z2 : 2 ≤ sizeLine := by decide
    have z1 : 1 ≤ sizeLine := by decide
    obtain ⟨qs, hL, hql, hqs⟩ := id hC
    have hl0 : 0 < cs.length := List.length_pos_iff.mpr hne
    refine ⟨_, rfl, G, st, m, 6, rfl, d, by omega, by decide, by decide, fun pl H1 pl0 pl1 d1 => ?_⟩
    refine ⟨_, rfl, _, rfl, L, _, rfl, .inl (SqL.of (d1.same _ _ hL)), G, st, m + 1, ((cs.length : Nat) : Int), by rw [List.length_map, hql]; rfl, d1, by omega, by omega, by omega, fun kz H2 k0 k1 d2 => ?_⟩
    obtain ⟨kn, rfl⟩ := Int.eq_ofNat_of_zero_le k0
    have hk : kn < cs.length := by omega
    have tk : qs[kn]? = some (qs[kn]'(by omega)) := List.getElem?_eq_getElem (by omega)
    have ck : cs[kn]? = some (cs[kn]'(by omega)) := List.getElem?_eq_getElem (by omega)
    obtain ⟨u0, v0, et, pu, pv⟩ := hqs kn _ _ tk ck
    have atk : atI (qs.map V.ref) ((kn : Nat) : Int) = some (V.ref (qs[kn]'(by omega))) := atI_nat (by rw [List.getElem?_map, tk]; rfl)
    refine ⟨_, rfl, _, rfl, L, _, _, _, rfl, rfl, SqL.of (d2.same _ _ hL), atk, ?_⟩
    refine ⟨_, _, rfl, SqT.of (d2.same _ _ et), rfl, _, _, rfl, _, _, rfl, rfl, ?_⟩
    refine tLow_run (A := 3) (B := 3) (a := tC (.int 3)) (b := tC (.int 3)) (n := 2) rfl (fun _ _ q => q) (fun _ _ q => q) d2 (by omega) (by decide) (by decide) (by decide) (by decide) (by decide) fun ch G3 H3 xc s3 d3 pc hxc => ?_
    have hC3 := hC.on s3
    have hR3 := (hR.on s3).mono (show n ≤ n + 7 by omega)
    have hL3 := s3 _ _ hL
    have pu3 := (pu.on s3).mono (show n ≤ n + 4 by omega)
    have pv3 := (pv.on s3).mono (show n ≤ n + 4 by omega)
    have first : ∀ j : Int, j = (if (kn : Int) - 1 > 0 then (kn : Int) - 1 else 0) → ∃ q u v c, atI (qs.map V.ref) j = some (V.ref q) ∧ G3 q = some (.tup [.ref u, .ref v]) ∧ PV G3 u (Prod.fst c) n ∧ PV G3 v (Prod.snd c) n := by
      intro j hj
      obtain ⟨i, rfl, hi⟩ : ∃ i : Nat, j = (i : Int) ∧ i < cs.length := by
        by_cases h : (kn : Int) - 1 > 0
        · rw [if_pos h] at hj
          exact ⟨kn - 1, by omega, by omega⟩
        · rw [if_neg h] at hj
          exact ⟨0, by omega, by omega⟩
      have ti : qs[i]? = some (qs[i]'(by omega)) := List.getElem?_eq_getElem (by omega)
      have ci : cs[i]? = some (cs[i]'(by omega)) := List.getElem?_eq_getElem (by omega)
      obtain ⟨u, v, e, a, b⟩ := hqs i _ _ ti ci
      exact ⟨_, u, v, _, atI_nat (by rw [List.getElem?_map, ti]; rfl), s3 _ _ e, a.on s3, b.on s3⟩
    refine ⟨SpSt st L r pl kn ch G3 m (n + 4), ?_, ?_⟩
    · refine ⟨_, rfl, rfl, _, rfl, ite2 (fun _ => ?_) fun _ => ⟨u0, v0, _, _, G3, rfl, d3, .refl _, pu3, pv3⟩⟩
      obtain ⟨q1, u1, v1, c1, at1, e1, p1, p1'⟩ := first _ rfl
      refine ⟨_, rfl, _, rfl, _, _, rfl, rfl, 0, _, rfl, L, _, _, _, rfl, rfl, SqL.of (d3.same _ _ hL3), at1, ?_⟩
      refine ⟨_, _, _, _, rfl, rfl, SqT.of (d3.same _ _ e1), rfl, _, rfl, u1, ch, _, xc, n, 2, rfl, p1.on d3.same, pc.on d3.same, by omega, by decide, fun o H4 no s4 w4 => ?_⟩
      obtain ⟨G4, d4, sg, nl⟩ := (d3.on s4).grow
      exact ⟨o, v0, _, _, G4, rfl, d4, sg, (w4.nl nl).mono (by omega), pv3.on sg⟩
    rintro σ H4 ⟨u1, v1, x1, y1, G4, rfl, d4, s4, pu4, pv4⟩
    refine ⟨SpSt st L r pl kn ch G3 m (n + 4), ?_, ?_⟩
    · refine ⟨_, rfl, rfl, _, rfl, ite2 (fun _ => ?_) fun _ => ⟨u1, v1, _, _, G4, rfl, d4, s4, pu4, pv4⟩⟩
      obtain ⟨q2, u2, v2, c2, at2, e2, p2, p2'⟩ := first _ rfl
      refine ⟨_, rfl, _, rfl, _, _, rfl, rfl, 0, _, rfl, L, _, _, _, rfl, rfl, SqL.of (d4.same _ _ (s4 _ _ hL3)), at2, ?_⟩
      refine ⟨_, _, _, _, rfl, rfl, SqT.of (d4.same _ _ (s4 _ _ e2)), rfl, _, rfl, v2, ch, _, xc, n, 2, rfl, (p2'.on s4).on d4.same, (pc.on s4).on d4.same, by omega, by decide, fun o H5 no s5 w5 => ?_⟩
      obtain ⟨G5, d5, sg, nl⟩ := (d4.on s5).grow
      exact ⟨u1, o, _, _, G5, rfl, d5, s4.trans sg, pu4.on sg, (w5.nl nl).mono (by omega)⟩
    clear d4 s4 pu4 pv4
    rintro σ H4 ⟨u1, v1, x1, y1, G4, rfl, d4, s4, pu4, pv4⟩
    have s34 := s3.trans s4
    refine ⟨_, rfl, rfl, _, rfl, ite2 (fun _ => ?_) fun _ => ?_⟩
    · refine ⟨_, rfl, 1, rfl, _, rfl, G4, st, m + 4, 5, rfl, d4, by omega, by decide, by decide, fun r1 H5 r10 r11 d5 => ?_⟩
      refine ⟨_, _, rfl, rfl, _, rfl, G4, st, m + 5, 1, rfl, d5, by omega, by decide, by decide, fun r2 H6 r20 r21 d6 => ?_⟩
      obtain rfl : r2 = 0 := by omega
      refine ⟨_, _, rfl, rfl, z2, fun z nz => ⟨z2, fun o no => ?_⟩⟩
      have d7 := d6.new (o := .tup [V.int (-1 - r1), .int (1 + 0)]) nz
      have d8 := d7.new (o := .tup [V.ref L, .ref z]) no
      have s7 := same_upd (o := .tup [V.int (-1 - r1), .int (1 + 0)]) (d6.free nz)
      have s8 := same_upd (o := .tup [V.ref L, .ref z]) (d7.free no)
      exact k o L z cs _ _ _ ((s34.trans s7).trans s8) d8 upd_same ((((hC3.on s4).on s7).on s8).mono (by omega)) hne rfl (((pv_int (n := 3) upd_same (by show (-1 - r1).natAbs < 8; omega) (by decide)).on s8).mono (by omega))
    refine ⟨SpSt st L r pl kn ch G3 m (n + 7), ?_, ?_⟩
    · refine ⟨_, rfl, rfl, _, rfl, ite2 (fun _ => ?_) fun _ => ⟨u1, v1, _, _, G4, rfl, d4, s4, pu4.mono (by omega), pv4.mono (by omega)⟩⟩
      refine ⟨_, rfl, _, rfl, u1, ch, _, xc, n + 4, 2, rfl, pu4.on d4.same, (pc.on s4).on d4.same, by omega, by decide, fun o H5 no s5 w5 => ?_⟩
      obtain ⟨G5, d5, sg, nl⟩ := (d4.on s5).grow
      exact ⟨o, v1, _, _, G5, rfl, d5, s4.trans sg, (w5.nl nl).mono (by omega), (pv4.on sg).mono (by omega)⟩
    clear s34 d4 s4 pu4 pv4
    rintro σ H4 ⟨u1, v1, x1, y1, G4, rfl, d4, s4, pu4, pv4⟩
    refine ⟨SpSt st L r pl kn ch G3 m (n + 7), ?_, ?_⟩
    · refine ⟨_, rfl, rfl, _, rfl, ite2 (fun _ => ?_) fun _ => ⟨u1, v1, _, _, G4, rfl, d4, s4, pu4, pv4⟩⟩
      obtain ⟨t, b, ec, lc, vc, zc⟩ := (pc.on s4).on d4.same
      refine ⟨1, rfl, _, rfl, _, _, _, _, rfl, rfl, SqT.of ec, rfl, _, _, rfl, rfl, z2, fun z nz => ?_⟩
      have d7 := d4.new (o := .tup [V.int (-1 - t), .int 1]) nz
      have s7 := same_upd (o := .tup [V.int (-1 - t), .int 1]) (d4.free nz)
      refine ⟨u1, z, _, _, _, rfl, d7, s4.trans s7, pu4.on s7, (pv_int (n := 3) upd_same ?_ (by decide)).mono (by omega)⟩
      have h1 : t.natAbs < 4 := zc.1
      show (-1 - t).natAbs < 8
      omega
    clear d4 s4 pu4 pv4
    rintro σ H4 ⟨u1, v1, x1, y1, G4, rfl, d4, s4, pu4, pv4⟩
    have s34 := s3.trans s4
    have hL4 := s4 _ _ hL3
    refine ⟨_, rfl, _, rfl, _, rfl, L, _, rfl, SqL.of (d4.same _ _ hL4), fun p1 np1 => ?_⟩
    rw [cut_take]
    have d5 := d4.new (o := .lst ((qs.map V.ref).take kn)) np1
    have s5 := same_upd (o := .lst ((qs.map V.ref).take kn)) (d4.free np1)
    refine ⟨_, rfl, _, rfl, z2, fun o no => ?_⟩
    have d6 := d5.new (o := .tup [V.ref u1, .ref v1]) no
    have s6 := same_upd (o := .tup [V.ref u1, .ref v1]) (d5.free no)
    refine ⟨z1, fun p2 np2 => ?_⟩
    have d7 := d6.new (o := .lst [V.ref o]) np2
    have s7 := same_upd (o := .lst [V.ref o]) (d6.free np2)
    have h900 : (900 : Nat) ≤ sizeLine := by decide
    have len1 : ((qs.map V.ref).take kn).length = kn := by rw [List.length_take, List.length_map]; omega
    have len2 : ((qs.map V.ref).drop (kn + 1)).length = cs.length - (kn + 1) := by rw [List.length_drop, List.length_map, hql]
    refine ⟨p1, p2, _, _, rfl, rfl, d7.same _ _ (s7 _ _ (s6 _ _ upd_same)), upd_same, by rw [len1]; show kn + 1 ≤ _; omega, fun p3 np3 => ?_⟩
    have d8 := d7.new (o := .lst ((qs.map V.ref).take kn ++ [V.ref o])) np3
    have s8 := same_upd (o := .lst ((qs.map V.ref).take kn ++ [V.ref o])) (d7.free np3)
    have s48 := ((s5.trans s6).trans s7).trans s8
    refine ⟨_, rfl, _, rfl, _, _, rfl, rfl, _, rfl, L, _, rfl, SqL.of (d8.same _ _ (s48 _ _ hL4)), fun p4 np4 => ?_⟩
    rw [show ((kn : Nat) : Int) + 1 = ((kn + 1 : Nat) : Int) from by omega, cut_drop]
    have d9 := d8.new (o := .lst ((qs.map V.ref).drop (kn + 1))) np4
    have s9 := same_upd (o := .lst ((qs.map V.ref).drop (kn + 1))) (d8.free np4)
    refine ⟨p3, p4, _, _, rfl, rfl, d9.same _ _ (s9 _ _ upd_same), upd_same, by rw [List.length_append, len1, len2]; show kn + 1 + _ ≤ _; omega, fun D nD => ?_⟩
    have d10 := d9.new (o := .lst (((qs.map V.ref).take kn ++ [V.ref o]) ++ (qs.map V.ref).drop (kn + 1))) nD
    have s10 := same_upd (o := .lst (((qs.map V.ref).take kn ++ [V.ref o]) ++ (qs.map V.ref).drop (kn + 1))) (d9.free nD)
    refine ⟨_, rfl, z2, fun o' no' => ?_⟩
    have d11 := d10.new (o := .tup [V.ref D, .ref r]) no'
    have s11 := same_upd (o := .tup [V.ref D, .ref r]) (d10.free no')
    have s4a := (((s48.trans s9).trans s10).trans s11)
    have lq : (qs.take kn ++ [o] ++ qs.drop (kn + 1)).length = cs.length := by
      simp only [List.length_append, List.length_take, List.length_drop, List.length_singleton]
      omega
    have lc : (cs.take kn ++ [(x1, y1)] ++ cs.drop (kn + 1)).length = cs.length := by
      simp only [List.length_append, List.length_take, List.length_drop, List.length_singleton]
      omega
    refine k o' D r (cs.take kn ++ [(x1, y1)] ++ cs.drop (kn + 1)) s _ _ (s34.trans s4a) (d11.mono (by omega)) upd_same ⟨qs.take kn ++ [o] ++ qs.drop (kn + 1), ?_, by rw [lq, lc], fun i t c ht hc => ?_⟩ (fun z => by rw [z] at lc; exact absurd lc (by show ¬ 0 = _; omega)) lc ((hR3.on s4).on s4a)
    · rw [s11 _ _ upd_same, List.map_append, List.map_append, List.map_take, List.map_drop]
      rfl
    · have hi : i < cs.length := by rw [← lc]; exact (List.getElem?_eq_some_iff.mp hc).1
      have e3' := s4.trans s4a
      rcases Nat.lt_trichotomy i kn with h | h | h
      · rw [List.append_assoc, List.getElem?_append_left (by rw [List.length_take]; omega), List.getElem?_take_of_lt h] at ht hc
        obtain ⟨u, v, e, a, b⟩ := hqs i t c ht hc
        exact ⟨u, v, (s3.trans e3') _ _ e, ((a.on s3).on e3').mono (by omega), ((b.on s3).on e3').mono (by omega)⟩
      · subst h
        rw [List.append_assoc, List.getElem?_append_right (by rw [List.length_take]; omega), List.length_take, Nat.min_eq_left (by omega), Nat.sub_self] at ht hc
        rw [← Option.some.inj (show some o = some t from ht), ← Option.some.inj (show some (x1, y1) = some c from hc)]
        exact ⟨u1, v1, ((((s7.trans s8).trans s9).trans s10).trans s11) _ _ (by exact upd_same), (pu4.on s4a).mono (by omega), (pv4.on s4a).mono (by omega)⟩
      · have l1 : (qs.take kn ++ [o]).length = kn + 1 := by rw [List.length_append, List.length_take, Nat.min_eq_left (by omega)]; rfl
        have l2 : (cs.take kn ++ [(x1, y1)]).length = kn + 1 := by rw [List.length_append, List.length_take, Nat.min_eq_left (by omega)]; rfl
        rw [List.getElem?_append_right (by omega), List.getElem?_drop] at ht hc
        rw [l1, show kn + 1 + (i - (kn + 1)) = i by omega] at ht
        rw [l2, show kn + 1 + (i - (kn + 1)) = i by omega] at hc
        obtain ⟨u, v, e, a, b⟩ := hqs i t c ht hc
        exact ⟨u, v, (s3.trans e3') _ _ e, ((a.on s3).on e3').mono (by omega), ((b.on s3).on e3').mono (by omega)⟩
end

/-! ### a line of ratios from told corners -/
section
variable {P : Program} {w : World} {K : PySem.W.Frag} {mg : Str → Option Value} {base : Heap}
/-- what stands in tuples, named -/
theorem TupsN.corV {RC : Addr} {H : Hp} {c : Addr} {us : List Addr} {cs : List (Rat × Rat)} {n : Nat} (r : TupsN RC H us cs n) (h : SqL K H c (us.map V.ref) ∨ SqT K H c (us.map V.ref)) (hl : us.length = cs.length) : ∃ uv, CorV K RC H c uv cs n := by
  have ex : ∀ i : Fin us.length, ∃ p : V × V, H us[i] = some (.tup [p.1, p.2]) ∧ NV RC H p.1 (cs[i]'(by omega)).1 n ∧ NV RC H p.2 (cs[i]'(by omega)).2 n := fun i => by
    obtain ⟨u, v, e, a, b⟩ := r i us[i] (cs[i]'(by omega)) (List.getElem?_eq_getElem i.2) (List.getElem?_eq_getElem (by omega))
    exact ⟨(u, v), e, a, b⟩
  refine ⟨List.ofFn fun i => (ex i).choose, us, h, hl, by rw [List.length_ofFn, hl], fun i t p d ht hp hd => ?_⟩
  have hi : i < us.length := (List.getElem?_eq_some_iff.mp ht).1
  rw [List.getElem?_eq_getElem hi] at ht
  rw [List.getElem?_eq_getElem (show i < cs.length by omega)] at hd
  rw [List.getElem?_ofFn, dif_pos hi] at hp
  have hs := (ex ⟨i, hi⟩).choose_spec
  rw [← Option.some.inj ht, ← Option.some.inj hd, ← Option.some.inj hp]
  exact hs
end
/-! ### ratios of told values -/
section
variable {P : Program} {w : World} {K : PySem.W.Frag} {mg : Str → Option Value} {base : Heap}
/-- Ratio(x[0], x[1]) -/
theorem mkR_run {RC q : Addr} {x : Rat} {n i : Nat} {σ : L2.St} {H : Hp} {Q : VK} (h0 : σ[i]? = some (some (.ref q))) (pq : PV H q x n) (hn : n ≤ 3900) (k : ∀ o H', H o = none → Same H H' → RV RC H' o x n → Q (.ref o) H') :
    tMake RC (spInit RC) [] E0 (tCons (tOp (rIxT K) (tVar i) (tC (.int 0))) (tCons (tOp (rIxT K) (tVar i) (tC (.int 1))) tNil)) σ H Q := by
  obtain ⟨t, b, e, l, v, z⟩ := pq
  refine ⟨_, h0, q, _, _, _, rfl, rfl, SqT.of e, rfl, _, h0, q, _, _, _, rfl, rfl, SqT.of e, rfl, ?_⟩
  refine made_rat l.ne (Nat.lt_of_lt_of_le z.2 (Nat.pow_le_pow_right (by decide) (by omega))) fun o H' no sm r => k o H' no sm ⟨_, _, r, Low.of l.ne, by rw [vq_low l.ne, v], z.low l.ne⟩
/-- Ratio(t) -/
theorem mkR1_run {RC : Addr} {t : Int} {n : Nat} {σ : L2.St} {H : Hp} {Q : VK} (ht : t.natAbs < 2 ^ n) (hn : 1 ≤ n) (k : ∀ o H', H o = none → Same H H' → RV RC H' o (vq t 1) n → Q (.ref o) H') :
    tMake RC (spInit RC) [.int 1] E0 (tCons (tC (.int t)) tNil) σ H Q :=
  made_rat (by decide) (by show (1 : Int).natAbs < 2 ^ 8000; exact Nat.one_lt_two_pow (by decide)) fun o H' no sm r => k o H' no sm ⟨_, _, r, Low.of (by decide), vq_low (by decide), Sz.low ⟨ht, Nat.one_lt_two_pow (by omega)⟩ (by decide)⟩
theorem yes_run {σ : L2.St} {H : Hp} {A B : Hp → Prop} (h : A H) : tYes σ H (fun b H3 => if b = true then A H3 else B H3) := by
  show (if true = true then A H else B H)
  exact iteT h
theorem tTup2_run {a b : TE} {σ : L2.St} {H : Hp} {Q : VK} (h : a σ H fun x H1 => b σ H1 fun y H2 => 2 ≤ sizeLine ∧ ∀ p, H2 p = none → Q (.ref p) (upd H2 p (.tup [x, y]))) : tTup (tCons a (tCons b tNil)) σ H Q := h
/-- (Ratio(x[0], x[1]), Ratio(y[0], y[1])) -/
theorem mkRR_run {RC u v : Addr} {x y : Rat} {n i j : Nat} {σ : L2.St} {H : Hp} {Q : VK} (hi : σ[i]? = some (some (.ref u))) (hj : σ[j]? = some (some (.ref v))) (pu : PV H u x n) (pv : PV H v y n) (hn : n ≤ 3900)
    (k : ∀ t u' v' H', Same H H' → H' t = some (.tup [V.ref u', .ref v']) → NV RC H' (.ref u') x n → NV RC H' (.ref v') y n → Q (.ref t) H') :
    tTup (tCons (tMake RC (spInit RC) [] E0 (tCons (tOp (rIxT K) (tVar i) (tC (.int 0))) (tCons (tOp (rIxT K) (tVar i) (tC (.int 1))) tNil))) (tCons (tMake RC (spInit RC) [] E0 (tCons (tOp (rIxT K) (tVar j) (tC (.int 0))) (tCons (tOp (rIxT K) (tVar j) (tC (.int 1))) tNil))) tNil)) σ H Q := by
  refine tTup2_run (mkR_run hi pu hn fun o H1 no s1 r1 => mkR_run hj (pv.on s1) hn fun o' H2 no' s2 r2 => ⟨by decide, fun t nt => ?_⟩)
  have s3 := same_upd (o := .tup [V.ref o, .ref o']) nt
  exact k t o o' _ ((s1.trans s2).trans s3) upd_same ((r1.on s2).on s3).num (r2.on s3).num
end
section
variable {P : Program} {w : World} {K : PySem.W.Frag} {mg : Str → Option Value} {base : Heap}
/-- right corners make a line -/
theorem due_fine {LC RC D DC p : Addr} {y : V} {s : Rat} {uv : List (V × V)} {cs : List (Rat × Rat)} {n : Nat} {H : Hp} {Q : VK} {E : XK} (c : Cor cs) (hs : 0 ≤ s) (q : ∀ H', LineAt LC RC H' p (bends (segs cs s)) (4 * n + 2) → (∀ a o, H a = some o → a ≠ p → H' a = some o) → Q .non H') : LineDue LC RC D DC p y s uv cs n H Q E := by
  refine ⟨⟨fun e => absurd e c.1, fun c0 u h0 _ => ?_, fun _ _ => q⟩, fun _ h => absurd hs (Rat.not_le.mpr h)⟩
  obtain ⟨z1, z2⟩ := c.2.1 c0 h0
  refine ⟨fun h => absurd z1 h, fun _ h => absurd z2 (Rat.not_le.mpr h), fun _ _ i d f u hd hf _ _ => ?_⟩
  obtain ⟨y1, y2⟩ := c.2.2 i d f hd hf
  exact ⟨fun h => absurd y1 h, fun _ h => absurd y2 (Rat.not_le.mpr h)⟩
theorem segs_hd {cs : List (Rat × Rat)} {c : Rat × Rat} {s : Rat} (h : cs[0]? = some c) : ∃ r q, segs cs s = ⟨c.1, c.2, r⟩ :: q := by
  cases cs with
  | nil => cases h
  | cons a t =>
    obtain rfl := Option.some.inj h
    cases t with
    | nil => exact ⟨_, _, rfl⟩
    | cons b t => exact ⟨_, _, rfl⟩
/-- a line's time at nothing -/
theorem ev_at0 {cs : List (Rat × Rat)} {c : Rat × Rat} {s : Rat} (hc : Cor cs) (h : cs[0]? = some c) : ev (bends (segs cs s)) 0 = c.2 := by
  rw [ev_bends (segs_chn cs s hc.2.2)]
  obtain ⟨r, q, e⟩ := segs_hd (s := s) h
  have ch := segs_chn cs s hc.2.2
  rw [e] at ch ⊢
  have := ev_at_x ch
  rw [show (⟨c.1, c.2, r⟩ : Seg).x = 0 from (hc.2.1 c h).1] at this
  exact this
end
/-! ### a line bent elsewhere is not the same -/
section
variable {P : Program} {w : World} {K : PySem.W.Frag} {mg : Str → Option Value} {base : Heap}
def spBent (LC RC : Addr) : Sp := fun vs H Q _ => ∃ (p L r : Addr) (l : List Seg) (n m : Nat) (a b : Seg), vs = [.ref p, .ref L, .ref r] ∧ LineAt LC RC H p l m ∧ CorP H L (corsOf l) n ∧ PV H r (lastr l) n ∧ Nice l ∧ Can l ∧ l.length ≤ 90 ∧ n ≤ 400 ∧ l[0]? = some a ∧ l[1]? = some b ∧ a.t ≠ b.t ∧ ∀ H', Same H H' → Q (.bl true) H'
theorem ok_bent (T : Txt K mg) : FnOk P w K mg base CX0 9 T.f_bent_right T.d_bent_right ["_law_line_here", "_law_plain_here", "_law_rise"] (spBent T.f_Line T.f_Ratio) := by
  have G_Ratio_init : FnOk P w K mg base CX0 1 T.f_Ratio_init T.d_Ratio_init ["self", "top", "bottom"] (spInit T.f_Ratio) := ok_init T
  have G_Line_eq := ok_lineeqB (P := P) (w := w) (base := base) T
  have GX_Line_init : FnOk P w K mg base (L2.CX P w) 7 T.f_Line_init T.d_Line_init ["self", "corners", "slope"] (spLineG K T.f_Line T.f_Ratio T.f_OutOfRange T.f_BadCount) := ok_lineG T
  have G_Line_init := calm_of GX_Line_init
  refine T.F_bent_right.ok sc_bent_right (fun vs H Q E h => ?_) (fun cdv A outer s0 H vs Q E hr h => ?_)
  · obtain ⟨p, L, r, l, n, m, a, b, rfl, _⟩ := h
    rfl
  · obtain ⟨p, L, r, l, n, m, a, b, rfl, hp, hC, hR, hN, hcan, hl, hn, ha, hb, hab, k⟩ := h
    refine ⟨_, (pss_cons (ps_par (i := 3) (j := 4) (by rfl) sc_bent_right.nd rfl rfl (by decide) rfl rfl (pa_cons (pe_ix ix_tup (pe_ix ix_list (pv 1) pe_int (fun _ _ => rfl)) pe_int (fun _ _ => rfl)) (pa_cons (pe_ix ix_tup (pe_ix ix_list (pv 1) pe_int (fun _ _ => rfl)) pe_int (fun _ _ => rfl)) pa_nil)) (by rfl))
    (pss_cons (ps_set (i := 5) sc_bent_right.nd rfl (Or.inl rfl) (pe_make T.mk_Ratio G_Ratio_init (hr.mono (by decide)) rfl T.m_Ratio T.b2_Ratio_init T.v2_Ratio_init pass0 (pa_cons (pe_op op_add (pe_op op_mulW (pe_ix ix_tup (pv 3) pe_int (fun _ _ => rfl)) (pe_ix ix_tup (pv 4) pe_int (fun _ _ => rfl))) (pe_op op_mulW (pe_ix ix_tup (pv 4) pe_int (fun _ _ => rfl)) (pe_ix ix_tup (pv 3) pe_int (fun _ _ => rfl)))) (pa_cons (pe_op op_mulW (pe_op op_mul pe_int (pe_ix ix_tup (pv 3) pe_int (fun _ _ => rfl))) (pe_ix ix_tup (pv 4) pe_int (fun _ _ => rfl))) pa_nil))))
    (pss_cons (ps_setLc (i := 6) (own := [("_law_x", 8), ("_law_y", 9)]) (g := gTup K 2 (gCons (gName 8) (gCons (gName 9) gNil))) (tt := tYes) rfl sc_bent_right.nd rfl rfl (sw_true rfl rfl rfl (by decide +kernel)) (pi_list (pe_slice sl_list (pv 1) (po_some pe_int) po_none)) (blkOk_by (N := ["_law_line_here", "_law_plain_here", "_law_rise", "_law_one", "_law_two", "_law_low_here", "_law_rest", "_law_bent", "_law_x", "_law_y"]) (sc := defScope s_bent_right) (by decide +kernel)) (fun _ _ _ _ _ => (pg_tup rfl (pgs_cons (pg_name (i := 8) sc_bent_right.nd rfl (Or.inl rfl)) (pgs_cons (pg_name (i := 9) sc_bent_right.nd rfl (Or.inl rfl)) pgs_nil)))) (fun _ _ _ _ _ => pts_nil) (fun _ _ _ _ _ => (pe_tup (pa_cons (pe_make T.mk_Ratio G_Ratio_init (hr.mono (by decide)) rfl T.m_Ratio T.b2_Ratio_init T.v2_Ratio_init pass0 (pa_cons (pe_ix (show IxR _ (rIxT K) from ix_tup) (pv 8) pe_int (fun _ _ => rfl)) (pa_cons (pe_ix (show IxR _ (rIxT K) from ix_tup) (pv 8) pe_int (fun _ _ => rfl)) pa_nil))) (pa_cons (pe_make T.mk_Ratio G_Ratio_init (hr.mono (by decide)) rfl T.m_Ratio T.b2_Ratio_init T.v2_Ratio_init pass0 (pa_cons (pe_ix (show IxR _ (rIxT K) from ix_tup) (pv 9) pe_int (fun _ _ => rfl)) (pa_cons (pe_ix (show IxR _ (rIxT K) from ix_tup) (pv 9) pe_int (fun _ _ => rfl)) pa_nil))) pa_nil)))))
    (pss_cons (ps_set (i := 7) sc_bent_right.nd rfl (Or.inl rfl) (pe_make T.mk_Line G_Line_init (hr.mono (by decide)) rfl T.m_Line T.b_Line_init .nil pass0 (pa_cons (pe_op op_cat (pe_lst (pa_cons (pe_tup (pa_cons (pe_make T.mk_Ratio G_Ratio_init (hr.mono (by decide)) rfl T.m_Ratio T.b1_Ratio_init T.v1_Ratio_init pass0 (pa_cons pe_int pa_nil)) (pa_cons (pv 5) pa_nil))) pa_nil)) (pv 6)) (pa_cons (pe_make T.mk_Ratio G_Ratio_init (hr.mono (by decide)) rfl T.m_Ratio T.b2_Ratio_init T.v2_Ratio_init pass0 (pa_cons (pe_ix ix_tup (pv 2) pe_int (fun _ _ => rfl)) (pa_cons (pe_ix ix_tup (pv 2) pe_int (fun _ _ => rfl)) pa_nil))) pa_nil))))
    (pss_one (ps_ret (pe_and (pe_not (pe_cmpR (cmp_own T.a_Line_eq T.i_Line_eq G_Line_eq (hr.mono (by decide)) T.b_Line_eq pass0) (pv 0) (pv 7) (nomark _))) (pe_and (pe_not (pe_cmpR (cmp_own T.a_Line_eq T.i_Line_eq G_Line_eq (hr.mono (by decide)) T.b_Line_eq pass0) (pv 7) (pv 0) (nomark _))) (pe_one (pe_cmpR (ne_own T.none_Line G_Line_eq (hr.mono (by decide)) T.b_Line_eq pass0) (pv 0) (pv 7) (nomark _))))))))))), ?_⟩
    have z2 : 2 ≤ sizeLine := by decide
    have z1 : 1 ≤ sizeLine := by decide
    obtain ⟨qs, eL, hql, hqs⟩ := id hC
    have hcl : (corsOf l).length = l.length := by unfold corsOf; rw [List.length_map]
    have h1l : 1 < l.length := (List.getElem?_eq_some_iff.mp hb).1
    have ca : (corsOf l)[0]? = some (a.x, a.t) := by unfold corsOf; rw [List.getElem?_map, ha]; rfl
    have cb : (corsOf l)[1]? = some (b.x, b.t) := by unfold corsOf; rw [List.getElem?_map, hb]; rfl
    have t0 : qs[0]? = some (qs[0]'(by omega)) := List.getElem?_eq_getElem (by omega)
    have t1 : qs[1]? = some (qs[1]'(by omega)) := List.getElem?_eq_getElem (by omega)
    obtain ⟨u0, v0, e0, pu0, pv0⟩ := hqs 0 _ _ t0 ca
    obtain ⟨u1, v1, e1, pu1, pv1⟩ := hqs 1 _ _ t1 cb
    obtain ⟨ta, ba, ea, la, va, za⟩ := id pv0
    obtain ⟨tb, bb, eb, lb, vb, zb⟩ := id pv1
    refine ⟨_, rfl, L, _, _, _, rfl, rfl, SqL.of eL, atI_nat (j := 0) (by rw [List.getElem?_map, t0]; rfl), _, _, _, _, rfl, rfl, SqT.of e0, rfl, ?_⟩
    refine ⟨_, rfl, L, _, _, _, rfl, rfl, SqL.of eL, atI_nat (j := 1) (by rw [List.getElem?_map, t1]; rfl), _, _, _, _, rfl, rfl, SqT.of e1, rfl, ?_⟩
    have sma := za.sm (show n ≤ 3900 by omega)
    have smb := zb.sm (show n ≤ 3900 by omega)
    have sm2 : SM (2 * ba) := by
      have h1 := za.2
      show (2 * ba).natAbs < 2 ^ 3900
      rw [Int.natAbs_mul]
      have h2 := lt_mul (a := (2 : Int).natAbs) (n := 2) (by decide) h1
      exact Nat.lt_of_lt_of_le h2 (Nat.pow_le_pow_right (by decide) (by omega))
    refine ⟨_, _, rfl, _, rfl, _, _, _, _, rfl, rfl, SqT.of ea, rfl, ?_⟩
    refine ⟨_, rfl, _, _, _, _, rfl, rfl, SqT.of eb, rfl, _, _, rfl, rfl, sm_mul sma.1 smb.2, ?_⟩
    refine ⟨_, rfl, _, _, _, _, rfl, rfl, SqT.of eb, rfl, _, rfl, _, _, _, _, rfl, rfl, SqT.of ea, rfl, _, _, rfl, rfl, sm_mul smb.1 sma.2, _, _, rfl, rfl, ?_⟩
    refine ⟨_, rfl, _, _, _, _, rfl, rfl, SqT.of ea, rfl, _, _, rfl, rfl, .inl ⟨by decide, by decide⟩, _, rfl, _, _, _, _, rfl, rfl, SqT.of eb, rfl, _, _, rfl, rfl, sm_mul sm2 smb.2, ?_⟩
    have hne2 : 2 * ba * bb ≠ 0 := Int.mul_ne_zero (Int.mul_ne_zero (by decide) la.ne) lb.ne
    intro x dx nx ndx ne
    refine ⟨x, dx, _, _, rfl, upd_same, hne2, big_mul sm2 smb.2, fun H1 r1 st1 => ⟨rfl, ?_⟩⟩
    have s1 := Same.made nx ndx st1
    have rlo : RV T.f_Ratio H1 x ((a.t + b.t) / 2) (2 * n + 3) := by
      refine ⟨_, _, r1, Low.of hne2, ?_, ?_⟩
      · have va : vq ta ba = a.t := va
        have vb : vq tb bb = b.t := vb
        rw [vq_low hne2, ← va, ← vb, ← vq_add la.ne lb.ne]
        unfold vq
        push_cast
        have h1 : ((ba : Int) : Rat) ≠ 0 := fun z => la.ne (by exact_mod_cast z)
        have h2 : ((bb : Int) : Rat) ≠ 0 := fun z => lb.ne (by exact_mod_cast z)
        grind
      · refine Sz.low ⟨((za.add zb).mono (show n + n + 1 ≤ 2 * n + 3 by omega)).1, ?_⟩ hne2
        have h1 := lt_mul (a := (2 : Int).natAbs) (n := 2) (by decide) za.2
        have h2 := lt_mul h1 zb.2
        rw [Int.natAbs_mul, Int.natAbs_mul]
        exact Nat.lt_of_lt_of_le h2 (Nat.pow_le_pow_right (by decide) (by omega))
    refine ⟨_, rfl, 1, rfl, L, _, rfl, SqL.of (s1 _ _ eL), fun A nA => ?_⟩
    rw [cut1]
    have sA := same_upd (o := .lst ((qs.map V.ref).drop 1)) nA
    have hA : (upd H1 A (.lst ((qs.map V.ref).drop 1))) A = some (.lst ((qs.map V.ref).drop 1)) := upd_same
    generalize upd H1 A (.lst ((qs.map V.ref).drop 1)) = H2 at sA hA ⊢
    have s12 := s1.trans sA
    refine ⟨A, rfl, ⟨_, SqL.of hA⟩, fun D nD => ?_⟩
    have hdl : ((corsOf l).drop 1).length = l.length - 1 := by rw [List.length_drop, hcl]
    refine lc_list (K := K) (a := A) (xs := (qs.map V.ref).drop 1) (fun i H' => ∃ us : List Addr, H' D = some (.lst (us.map V.ref)) ∧ us.length = i ∧ Same H2 H' ∧ TupsN T.f_Ratio H' us ((corsOf l).drop 1) n) ⟨[], upd_same, rfl, same_upd nD, fun j t d h => by simp at h⟩ (fun i H' _ ⟨_, _, _, sm, _⟩ => SqL.of (sm _ _ hA)) ?_ ?_
    · intro i x0 H3 hi ⟨us, eD, hul, s3, hT⟩
      rw [List.getElem?_drop, List.getElem?_map] at hi
      cases ht : qs[1 + i]? with
      | none => rw [ht] at hi; cases hi
      | some t =>
        rw [ht] at hi
        obtain rfl := Option.some.inj hi
        have hil : 1 + i < (corsOf l).length := by rw [← hql]; exact (List.getElem?_eq_some_iff.mp ht).1
        have ec : (corsOf l)[1 + i]? = some (corsOf l)[1 + i] := List.getElem?_eq_getElem hil
        obtain ⟨u, v, et, pu, pv⟩ := hqs (1 + i) _ _ ht ec
        have s13 := s12.trans s3
        refine ⟨_, _, rfl, SqT.of (s13 _ _ et), rfl, _, _, rfl, _, _, rfl, rfl, rfl, ?_⟩
        refine yes_run ?_
        refine mkRR_run (i := 8) (j := 9) rfl rfl (pu.on s13) (pv.on s13) (by omega) fun t' u' v' H4 s4 e4 n4 n4' => ?_
        have eD4 := s4 _ _ eD
        refine ⟨us.map V.ref, eD4, small1000 (by rw [List.length_map]; omega), us ++ [t'], ?_, by rw [List.length_append, hul]; rfl, same_mut (s3.trans s4) nD, ((hT.on s4).snoc (d := (corsOf l)[1 + i]) hul (by rw [List.getElem?_drop]; exact ec) e4 n4 n4').put eD4⟩
        rw [upd_same, List.map_append]
        rfl
    rintro H3 ⟨us, eD, hul, s3, hT⟩
    rw [List.length_drop, List.length_map] at hul
    have s13 := s12.trans s3
    have s12' := sA.trans s3
    intro z dz nz ndz nez
    refine ⟨z, dz, 0, 1, rfl, upd_same, by decide, (by show (1 : Int).natAbs < 2 ^ 8000; exact Nat.one_lt_two_pow (by decide)), fun H4 r4 st4 => ⟨rfl, ?_⟩⟩
    have s4 := Same.made nz ndz st4
    have rz : RV T.f_Ratio H4 z 0 1 := ⟨_, _, r4, Low.of (by decide), by rw [vq_low (by decide)]; exact (vq_zero (by decide)).mpr rfl, Sz.low (t := 0) (b := 1) ⟨by decide, by decide⟩ (by decide)⟩
    have s14 := s13.trans s4
    refine ⟨_, rfl, z2, fun t0' nt0 => ?_⟩
    have s5 := same_upd (o := .tup [V.ref z, .ref x]) nt0
    refine ⟨z1, fun l1 nl1 => ?_⟩
    have s6 := same_upd (o := .lst [V.ref t0']) nl1
    have s36 := (s4.trans s5).trans s6
    refine ⟨_, rfl, l1, D, _, _, rfl, rfl, upd_same, s36 _ _ eD, ?_, fun F nF => ?_⟩
    · rw [List.length_map, hul, hql, hcl]
      have h900 : (900 : Nat) ≤ sizeLine := by decide
      show 1 + _ ≤ _
      omega
    have s7 := same_upd (o := .lst ([V.ref t0'] ++ us.map V.ref)) nF
    have s17 := (s13.trans s36).trans s7
    obtain ⟨tr, br, er, lr, vr, zr⟩ := hR.on s17
    refine ⟨_, rfl, r, _, _, _, rfl, rfl, SqT.of er, rfl, _, rfl, r, _, _, _, rfl, rfl, SqT.of er, rfl, fun q dq nq ndq neq => ⟨q, dq, tr, br, rfl, upd_same, lr.ne, Nat.lt_of_lt_of_le zr.2 (Nat.pow_le_pow_right (by decide) (by omega)), fun H8 r8 st8 => ⟨rfl, ?_⟩⟩⟩
    have s8 := Same.made nq ndq st8
    have rq : RV T.f_Ratio H8 q (lastr l) n := ⟨_, _, r8, Low.of lr.ne, by rw [vq_low lr.ne, vr], zr.low lr.ne⟩
    intro p2 d2 np2 nd2 ne2
    have s9 : Same H8 (upd (upd H8 d2 (.own p2)) p2 (.ins T.f_Line d2 [])) := (same_upd nd2).trans (same_upd (by rw [upd_ne (Ne.symm ne2)]; exact np2))
    have hp2 : (upd (upd H8 d2 (.own p2)) p2 (.ins T.f_Line d2 [])) p2 = some (.ins T.f_Line d2 []) := upd_same
    have np2' := np2
    generalize upd (upd H8 d2 (.own p2)) p2 (.ins T.f_Line d2 []) = H9 at s9 hp2 ⊢
    have s89 := s8.trans s9
    have sAll := s17.trans s89
    have eF : H9 F = some (.lst ((t0' :: us).map V.ref)) := s89 _ _ upd_same
    have hab2 : a.t < b.t := by
      have h2 : a.t ≤ b.t := ((cor_cors hN).2.2 0 _ _ ca cb).2
      grind
    have hcc := cor_cors hN
    have a0 : a.x = 0 ∧ 0 ≤ a.t := hcc.2.1 _ ca
    have abx : a.x < b.x := (hcc.2.2 0 _ _ ca cb).1
    have hcor : Cor ((0, (a.t + b.t) / 2) :: (corsOf l).drop 1) := by
      refine ⟨List.cons_ne_nil _ _, fun c hc => ?_, fun i c d hc hd => ?_⟩
      · obtain rfl := Option.some.inj (show some (0, (a.t + b.t) / 2) = some c from hc)
        exact ⟨rfl, by show 0 ≤ (a.t + b.t) / 2; grind⟩
      · cases i with
        | zero =>
          obtain rfl := Option.some.inj (show some (0, (a.t + b.t) / 2) = some c from hc)
          have hd : ((corsOf l).drop 1)[0]? = some d := hd
          rw [List.getElem?_drop, cb] at hd
          rw [← Option.some.inj hd]
          refine ⟨by show 0 < b.x; grind, by show (a.t + b.t) / 2 ≤ b.t; grind⟩
        | succ j =>
          have hc : ((corsOf l).drop 1)[j]? = some c := hc
          have hd : ((corsOf l).drop 1)[j + 1]? = some d := hd
          rw [List.getElem?_drop] at hc hd
          exact hcc.2.2 (1 + j) c d hc hd
    have hT9 : TupsN T.f_Ratio H9 (t0' :: us) ((0, (a.t + b.t) / 2) :: (corsOf l).drop 1) (2 * n + 3) := by
      intro i t d ht hd
      cases i with
      | zero =>
        obtain rfl := Option.some.inj (show some t0' = some t from ht)
        obtain rfl := Option.some.inj (show some (0, (a.t + b.t) / 2) = some d from hd)
        have sB := (s6.trans s7).trans s89
        exact ⟨_, _, sB _ _ upd_same, ((rz.on s5).on sB).num.mono (by omega), ((((rlo.on s12').on s4).on s5).on sB).num⟩
      | succ j =>
        obtain ⟨u, v, e, p1, p2⟩ := hT j t d ht hd
        have sB := (s36.trans s7).trans s89
        exact ⟨u, v, sB _ _ e, (p1.on sB).mono (by omega), (p2.on sB).mono (by omega)⟩
    obtain ⟨uv, hcv⟩ := hT9.corV (K := K) (.inl (SqL.of eF)) (by rw [List.length_cons, List.length_cons, hul, List.length_drop, hql])
    refine ⟨p2, d2, F, .ref q, uv, _, lastr l, 2 * n + 3, n, rfl, hp2, hcv, by rw [List.length_cons, hdl]; omega, (rq.on s9).num, by omega, by omega, by omega, due_fine hcor hN.last fun H10 hL10 kp => ⟨rfl, ?_⟩⟩
    have s10 : Same H8 H10 := fun a o ha => kp a o (s9 _ _ ha) (ne_of_none ha np2')
    have hne : l ≠ bends (segs ((0, (a.t + b.t) / 2) :: (corsOf l).drop 1) (lastr l)) := by
      intro e
      have h1 := ev_at0 (s := lastr l) hcor (c := (0, (a.t + b.t) / 2)) rfl
      rw [← e] at h1
      obtain ⟨g, q, eg, gx, _⟩ := hN.cons
      have h2 : ev l 0 = a.t := by
        rw [eg] at ha ⊢
        obtain rfl := Option.some.inj (show some g = some a from ha)
        have := ev_at_x (eg ▸ hN.chn)
        rw [gx] at this
        exact this
      rw [h2] at h1
      have h1 : a.t = (a.t + b.t) / 2 := h1
      grind
    have hp10 := hp.on ((s17.trans s8).trans s10)
    obtain ⟨dx1, f1, f2, f3, ep1, _⟩ := id hp10
    obtain ⟨dx2, g1, g2, g3, ep2, _⟩ := id hL10
    refine ⟨_, rfl, _, rfl, p, dx1, _, p2, dx2, _, rfl, rfl, ep1, ep2, p, p2, l, _, _, _, rfl, hp10, hL10, ?_⟩
    rw [decide_eq_false hne]
    refine ⟨_, rfl, _, rfl, iteT ?_⟩
    refine ⟨_, rfl, _, rfl, p2, dx2, _, p, dx1, _, rfl, rfl, ep2, ep1, p2, p, _, l, _, _, rfl, hL10, hp10, ?_⟩
    rw [decide_eq_false (Ne.symm hne)]
    refine ⟨_, rfl, _, rfl, iteT ?_⟩
    refine ⟨_, rfl, _, rfl, p, dx1, _, p2, dx2, _, rfl, rfl, ep1, ep2, p, p2, l, _, _, _, rfl, hp10, hL10, ?_⟩
    rw [decide_eq_false hne]
    exact ⟨_, rfl, k _ ((s17.trans s8).trans s10)⟩
end

/-! ### what is due and what is made agree -/
section
variable {P : Program} {w : World} {K : PySem.W.Frag} {mg : Str → Option Value} {base : Heap}
theorem eqv_nv {RC : Addr} {H : Hp} {v : V} {x : Rat} {n : Nat} (h : NV RC H v x n) : EqV K H v v := by
  obtain ⟨t, b, nm, _⟩ := h
  rcases nm with ⟨e, _⟩ | ⟨p, e, _⟩
  · rw [e]
    exact .data (.int _) (.int _) rfl rfl (SeqAt.eqv_refl _ rfl)
  · rw [e]
    exact .same p
theorem badV_nv {RC : Addr} {H : Hp} {c : Addr} {uv : List (V × V)} {y v : V} {cs : List (Rat × Rat)} {s : Rat} {n m : Nat} (hc : CorV K RC H c uv cs n) (hy : NV RC H y s m) (h : BadV uv y cs s v) : ∃ x k, NV RC H v x k := by
  obtain ⟨ts, _, h2, h3, h4⟩ := hc
  have at' : ∀ (i : Nat) p, uv[i]? = some p → (∃ x k, NV RC H p.1 x k) ∧ ∃ x k, NV RC H p.2 x k := fun i p hp => by
    have hi := (List.getElem?_eq_some_iff.mp hp).1
    obtain ⟨_, a, b⟩ := h4 i _ p _ (List.getElem?_eq_getElem (by omega)) hp (List.getElem?_eq_getElem (by omega))
    exact ⟨⟨_, _, a⟩, _, _, b⟩
  rcases h with ⟨c0, p, _, hp, h⟩ | ⟨_, _, e⟩
  · rcases h with ⟨_, e⟩ | ⟨_, _, e⟩ | ⟨_, _, i, d, f, q, _, _, hq, _, ⟨_, e⟩ | ⟨_, _, e⟩⟩
    · rw [e]; exact (at' 0 p hp).1
    · rw [e]; exact (at' 0 p hp).2
    · rw [e]; exact (at' (i + 1) q hq).1
    · rw [e]; exact (at' (i + 1) q hq).2
  · rw [e]
    exact ⟨_, _, hy⟩
theorem eqv_str {H : Hp} {z : Str} (h : SeqAt.shaped (.str z) = true) (h' : (PyData.str z).canLay0 = true) : EqV K H (.str z) (.str z) := .data (.str _) (.str _) h h (SeqAt.eqv_refl _ h')
theorem eqv_int {H : Hp} (z : Int) : EqV K H (.int z) (.int z) := .data (.int _) (.int _) rfl rfl (SeqAt.eqv_refl _ rfl)
theorem eqv_bl {H : Hp} (z : Bool) : EqV K H (.bl z) (.bl z) := .data (.bl _) (.bl _) rfl rfl (SeqAt.eqv_refl _ rfl)
theorem due_pair {H : Hp} {l l' : Addr} {uv : List (V × V)} {y : V} {cs : List (Rat × Rat)} {s : Rat} {n m : Nat} (hv : ∀ v, BadV uv y cs s v → EqV K H v v) (a : DueAt H l uv y cs s n) (b : DueAt H l' uv y cs s m) : ∃ xs ys, SqL K H l xs ∧ SqL K H l' ys ∧ Paired (EqV K H) xs ys := by
  rcases a with ⟨e, a⟩ | ⟨v, e, a⟩ | ⟨e, f, o, a, t⟩
  · rcases b with ⟨_, b⟩ | ⟨v', e', _⟩ | ⟨e', _⟩
    · exact ⟨_, _, SqL.of a, SqL.of b, .cons (eqv_str (by decide +kernel) (by decide +kernel)) (.cons (eqv_int _) .nil)⟩
    · exact absurd e e'.some
    · exact absurd e e'.1
  · rcases b with ⟨e', _⟩ | ⟨v', e', b⟩ | ⟨e', f', _⟩
    · exact absurd e' e.some
    · obtain rfl := e.one e'
      exact ⟨_, _, SqL.of a, SqL.of b, .cons (eqv_str (by decide +kernel) (by decide +kernel)) (.cons (hv _ e) (.cons (eqv_bl _) .nil))⟩
    · exact absurd (e.cor e').1 (Rat.not_lt.mpr f')
  · rcases b with ⟨e', _⟩ | ⟨v', e', _⟩ | ⟨e', f', o', b, t'⟩
    · exact absurd e' e.1
    · exact absurd (e'.cor e).1 (Rat.not_lt.mpr f)
    · exact ⟨_, _, SqL.of a, SqL.of b, .cons (eqv_str (by decide +kernel) (by decide +kernel)) (.cons (.data t.dp t'.dp (sh_T _ _) (sh_T _ _) (eqv_T _ _)) .nil)⟩
theorem DueAt.on {H H' : Hp} {l : Addr} {uv : List (V × V)} {y : V} {cs : List (Rat × Rat)} {s : Rat} {n : Nat} (a : DueAt H l uv y cs s n) (sm : Same H H') : DueAt H' l uv y cs s n := by
  rcases a with ⟨e, a⟩ | ⟨v, e, a⟩ | ⟨e, f, o, a, t⟩
  · exact .inl ⟨e, sm _ _ a⟩
  · exact .inr (.inl ⟨v, e, sm _ _ a⟩)
  · exact .inr (.inr ⟨e, f, o, sm _ _ a, t.on sm⟩)
def spMadeD (K : PySem.W.Frag) (RC : Addr) : Sp := fun vs H Q _ => ∃ (c : Addr) (y : V) (uv : List (V × V)) (cs : List (Rat × Rat)) (s : Rat) (n m : Nat), vs = [.ref c, y] ∧ CorV K RC H c uv cs n ∧ cs.length ≤ 100 ∧ NV RC H y s m ∧ n ≤ 900 ∧ m ≤ 4 * n + 2 ∧ m ≤ 900 ∧ ∀ l H', Same H H' → DueAt H' l uv y cs s (4 * n + 2) → Q (.ref l) H'
theorem ok_madeD (T : Txt K mg) : FnOk P w K mg base CX0 9 T.f_made T.d_made ["_law_pairs", "_law_rise"] (spMadeD K T.f_Ratio) := (ok_made T).imp fun vs H Q E ⟨c, y, uv, cs, s, n, m, e, hc, hl, hy, hn, hm, hm9, k⟩ =>
  ⟨c, y, uv, cs, s, n, m, e, hc, hl, hy, hn, hm, hm9, fun z l H' sm _ h => k l H' sm (.inl ⟨z, h⟩), fun v b l H' sm _ h => k l H' sm (.inr (.inl ⟨v, b, h⟩)), fun z f l o H' sm _ h t => k l H' sm (.inr (.inr ⟨z, f, o, h, by rw [lastr_bends, lastr_segs z.1] at t; exact t⟩))⟩
theorem TupsN.named {RC : Addr} {H : Hp} {us : List Addr} {cs : List (Rat × Rat)} {n : Nat} (r : TupsN RC H us cs n) (hl : us.length = cs.length) : ∃ uv : List (V × V), uv.length = cs.length ∧ ∀ (i : Nat) t p d, us[i]? = some t → uv[i]? = some p → cs[i]? = some d → H t = some (.tup [p.1, p.2]) ∧ NV RC H p.1 d.1 n ∧ NV RC H p.2 d.2 n := by
  have ex : ∀ i : Fin us.length, ∃ p : V × V, H us[i] = some (.tup [p.1, p.2]) ∧ NV RC H p.1 (cs[i]'(by omega)).1 n ∧ NV RC H p.2 (cs[i]'(by omega)).2 n := fun i => by
    obtain ⟨u, v, e, a, b⟩ := r i us[i] (cs[i]'(by omega)) (List.getElem?_eq_getElem i.2) (List.getElem?_eq_getElem (by omega))
    exact ⟨(u, v), e, a, b⟩
  refine ⟨List.ofFn fun i => (ex i).choose, by rw [List.length_ofFn, hl], fun i t p d ht hp hd => ?_⟩
  have hi : i < us.length := (List.getElem?_eq_some_iff.mp ht).1
  rw [List.getElem?_eq_getElem hi] at ht
  rw [List.getElem?_eq_getElem (show i < cs.length by omega)] at hd
  rw [List.getElem?_ofFn, dif_pos hi] at hp
  have hs := (ex ⟨i, hi⟩).choose_spec
  rw [← Option.some.inj ht, ← Option.some.inj hd, ← Option.some.inj hp]
  exact hs
theorem up_lt : ∀ (r : List (Rat × Rat)) (b c : Rat × Rat), Up (b :: r ++ [c]) → b.1 < c.1
  | [], b, c, h => (h 0 b c rfl rfl).1
  | a :: r, b, c, h => by
    have h1 : b.1 < a.1 := (h 0 b a rfl rfl).1
    have h2 := up_lt r a c fun i x y hx hy => h (i + 1) x y hx hy
    grind
/-- the time at the last corner -/
theorem ev_last : ∀ (cs : List (Rat × Rat)) (c : Rat × Rat) (s : Rat), Up (cs ++ [c]) → ev (segs (cs ++ [c]) s) c.1 = c.2
  | [], c, s, _ => by
    show c.2 + s * (c.1 - c.1) = c.2
    grind
  | [a], c, s, h => by
    show (if c.1 < c.1 then _ else c.2 + s * (c.1 - c.1)) = c.2
    rw [if_neg Rat.lt_irrefl]
    grind
  | a :: b :: r, c, s, h => by
    have h' : Up (b :: r ++ [c]) := fun i x y hx hy => h (i + 1) x y hx hy
    have ih := ev_last (b :: r) c s h'
    obtain ⟨g, q, e⟩ := segs_hd (cs := b :: r ++ [c]) (c := b) (s := s) rfl
    have e1 : segs (a :: b :: r ++ [c]) s = ⟨a.1, a.2, (b.2 - a.2) / (b.1 - a.1)⟩ :: segs (b :: r ++ [c]) s := rfl
    rw [e1, e]
    rw [e] at ih
    have hb : ¬ c.1 < b.1 := by
      have := up_lt r b c h'
      grind
    show (if c.1 < b.1 then _ else ev (⟨b.1, b.2, g⟩ :: q) c.1) = c.2
    rw [if_neg hb]
    exact ih
/-- another time at the last corner, another line -/
theorem near_ne {cs : List (Rat × Rat)} {x t t' s s' : Rat} (h : Up (cs ++ [(x, t)])) (h' : Up (cs ++ [(x, t')])) (ne : t ≠ t') : bends (segs (cs ++ [(x, t)]) s) ≠ bends (segs (cs ++ [(x, t')]) s') := fun e => by
  have e1 := ev_bends (segs_chn _ s h) x
  have e2 := ev_bends (segs_chn _ s' h') x
  rw [ev_last cs (x, t) s h] at e1
  rw [ev_last cs (x, t') s' h'] at e2
  rw [e, e2] at e1
  exact ne e1.symm
theorem steep_ne {cs : List (Rat × Rat)} {s s' : Rat} (h : cs ≠ []) (ne : s ≠ s') : bends (segs cs s) ≠ bends (segs cs s') := fun e => by
  have := congrArg lastr e
  rw [lastr_bends, lastr_bends, lastr_segs h, lastr_segs h] at this
  exact ne this
/-- ratios for the told values of each corner -/
theorem rcomp_run {RC A D : Addr} {qs : List Addr} {cs : List (Rat × Rat)} {n i j : Nat} {σ : L2.St} {H1 : Hp} {Qd : Hp → Prop} (hA : H1 A = some (.lst (qs.map V.ref))) (hql : qs.length = cs.length) (hqs : TupsP H1 qs cs n) (hn : n ≤ 3900) (hl : qs.length ≤ 900) (nD : H1 D = none)
    (h1 : ∀ u v : V, (((wipe σ [i, j]).set i (some u)).set j (some v))[i]? = some (some u)) (h2 : ∀ u v : V, (((wipe σ [i, j]).set i (some u)).set j (some v))[j]? = some (some v)) (h3 : ∀ u v : V, wipe (((wipe σ [i, j]).set i (some u)).set j (some v)) [i, j] = wipe σ [i, j])
    (hd : ∀ H' us, Same H1 H' → H' D = some (.lst (us.map V.ref)) → us.length = cs.length → TupsN RC H' us cs n → Qd H') :
    ∃ W : Nat → Nat → Hp → Prop, (∃ m, W 0 m (upd H1 D (.lst []))) ∧ ∀ k m H, W k m H → ((Itl K A).stop k H ∧ Qd H) ∨ ((Itl K A).go k H ∧ ∃ Nx : Hp → Prop, (∀ H', Nx H' → ∃ m', m' < m ∧ W (k + 1) m' H') ∧ ∀ x H', (Itl K A).yld k H x H' →
      gTup K 2 (gCons (gName i) (gCons (gName j) gNil)) x (wipe σ [i, j]) H' fun σ2 H2 => wipe σ2 [i, j] = wipe σ [i, j] ∧ tYes σ2 H2 fun b H3 => if b = true then tTup (tCons (tMake RC (spInit RC) [] E0 (tCons (tOp (rIxT K) (tVar i) (tC (.int 0))) (tCons (tOp (rIxT K) (tVar i) (tC (.int 1))) tNil))) (tCons (tMake RC (spInit RC) [] E0 (tCons (tOp (rIxT K) (tVar j) (tC (.int 0))) (tCons (tOp (rIxT K) (tVar j) (tC (.int 1))) tNil))) tNil)) σ2 H3 fun y H4 => ∃ acc, H4 D = some (.lst acc) ∧ acc.length < sizeLine ∧ Nx (upd H4 D (.lst (acc ++ [y]))) else Nx H3) := by
  refine lc_list (K := K) (a := A) (xs := qs.map V.ref) (fun k H' => ∃ us : List Addr, H' D = some (.lst (us.map V.ref)) ∧ us.length = k ∧ Same H1 H' ∧ TupsN RC H' us cs n) ⟨[], upd_same, rfl, same_upd nD, fun j t d h => by simp at h⟩ (fun k H' _ ⟨_, _, _, sm, _⟩ => SqL.of (sm _ _ hA)) ?_ ?_
  · intro k x0 H3 hi ⟨us, eD, hul, s3, hT⟩
    rw [List.getElem?_map] at hi
    cases ht : qs[k]? with
    | none => rw [ht] at hi; cases hi
    | some t =>
      rw [ht] at hi
      obtain rfl := Option.some.inj hi
      have hil : k < cs.length := by rw [← hql]; exact (List.getElem?_eq_some_iff.mp ht).1
      have ec : cs[k]? = some cs[k] := List.getElem?_eq_getElem hil
      obtain ⟨u, v, et, pu, pv⟩ := hqs k _ _ ht ec
      refine ⟨_, _, rfl, SqT.of (s3 _ _ et), rfl, _, _, rfl, _, _, rfl, rfl, h3 _ _, ?_⟩
      refine yes_run ?_
      refine mkRR_run (i := i) (j := j) (h1 _ _) (h2 _ _) (pu.on s3) (pv.on s3) hn fun t' u' v' H4 s4 e4 n4 n4' => ?_
      have eD4 := s4 _ _ eD
      refine ⟨us.map V.ref, eD4, small1000 (by rw [List.length_map]; omega), us ++ [t'], ?_, by rw [List.length_append, hul]; rfl, same_mut (s3.trans s4) nD, ((hT.on s4).snoc (d := cs[k]) hul ec e4 n4 n4').put eD4⟩
      rw [upd_same, List.map_append]
      rfl
  rintro H3 ⟨us, eD, hul, s3, hT⟩
  rw [List.length_map] at hul
  exact hd H3 us s3 eD (hul.trans hql) hT
/-! a list that changes is hidden -/
theorem cors_ne {RC : Addr} {H : Hp} {L E : Addr} {us : List Addr} {cs cs' : List (Rat × Rat)} {n m : Nat} (c : CorP H L cs' n) (ne : cs' ≠ []) (hE : H E = some (.lst (us.map V.ref))) (t : TupsN RC H us cs m) (hl : us.length = cs.length) : L ≠ E := by
  rintro rfl
  obtain ⟨qs, e, hql, h⟩ := c
  rw [hE] at e
  injection e with e
  injection e with e
  have h0 : 0 < cs'.length := List.length_pos_iff.mpr ne
  have e1 : qs[0]? = some (qs[0]'(by omega)) := List.getElem?_eq_getElem (by omega)
  have hlen : us.length = qs.length := by have := congrArg List.length e; simpa using this
  have e2 : us[0]? = some (us[0]'(by omega)) := List.getElem?_eq_getElem (by omega)
  have e3 := congrArg (fun l : List V => l[0]?) e
  simp only [List.getElem?_map, e1, e2] at e3
  have e4 : us[0]'(by omega) = qs[0]'(by omega) := by
    have e3 := Option.some.inj e3
    injection e3
  obtain ⟨u, v, ht, pu, _⟩ := h 0 _ _ e1 (List.getElem?_eq_getElem h0)
  obtain ⟨x, y, ht', nx, _⟩ := t 0 _ _ e2 (List.getElem?_eq_getElem (by omega))
  rw [e4, ht] at ht'
  injection ht' with ht'
  injection ht' with ht'
  injection ht' with hx _
  obtain ⟨_, _, hu, _⟩ := pu
  obtain ⟨_, _, nm, _⟩ := nx
  rw [← hx] at nm
  have hu : H u = some (.tup _) := hu
  rcases nm with ⟨z, _⟩ | ⟨p, z, dx, hp⟩
  · cases z
  · injection z with z
    rw [← z, hu] at hp
    cases hp
theorem CorP.hide {H G : Hp} {L : Addr} {cs : List (Rat × Rat)} {n : Nat} (c : CorP H L cs n) (h : NL H G) (hL : G L = H L) : CorP G L cs n := by
  obtain ⟨qs, e, hl, hq⟩ := c
  refine ⟨qs, by rw [hL]; exact e, hl, fun i t d h1 h2 => ?_⟩
  obtain ⟨u, v, et, a, b⟩ := hq i t d h1 h2
  exact ⟨u, v, h _ _ et (fun _ z => nomatch z), a.nl h, b.nl h⟩
theorem hide_of {H : Hp} {E : Addr} {xs ys : List V} (hE : H E = some (.lst xs)) : ∃ G : Hp, Same G (upd H E (.lst ys)) ∧ NL H G ∧ ∀ a, a ≠ E → G a = H a := by
  refine ⟨fun a => if a = E then none else H a, fun a o h => ?_, fun a o h hn => ?_, fun a h => if_neg h⟩
  · have h : (if a = E then none else H a) = some o := h
    by_cases e : a = E
    · rw [if_pos e] at h
      cases h
    · rw [if_neg e] at h
      rw [upd_ne e]
      exact h
  · show (if a = E then none else H a) = some o
    rw [if_neg (fun e => hn xs (by rw [e, hE] at h; exact (Option.some.inj h).symm))]
    exact h
theorem cut_m1 (xs : List V) : cutV xs none (some (-1)) = xs.take (xs.length - 1) := by
  unfold cutV
  rw [HT.sIx_none, List.drop_zero, Nat.sub_zero]
  rw [show HT.sIx xs.length xs.length (some (-1)) = xs.length - 1 from by
    unfold HT.sIx
    simp only
    rw [if_pos (by decide)]
    omega]
theorem cor_last {ci : List (Rat × Rat)} {c : Rat × Rat} {d : Rat} (h : Cor (ci ++ [c])) (hd : c.2 ≤ d) : Cor (ci ++ [(c.1, d)]) := by
  refine ⟨by simp, fun a ha => ?_, fun i a b ha hb => ?_⟩
  · cases ci with
    | nil =>
      obtain rfl := Option.some.inj (show some (c.1, d) = some a from ha)
      obtain ⟨h1, h2⟩ := h.2.1 c rfl
      exact ⟨h1, by show 0 ≤ d; grind⟩
    | cons e r => exact h.2.1 a ha
  · have hi := (List.getElem?_eq_some_iff.mp hb).1
    rw [List.length_append, List.length_singleton] at hi
    have hb' : i + 1 < ci.length ∨ i + 1 = ci.length := by omega
    rw [List.getElem?_append_left (by omega)] at ha
    rcases hb' with hb' | hb'
    · rw [List.getElem?_append_left hb'] at hb
      exact h.2.2 i a b (by rw [List.getElem?_append_left (by omega)]; exact ha) (by rw [List.getElem?_append_left hb']; exact hb)
    · rw [List.getElem?_append_right (by omega), hb', Nat.sub_self] at hb
      obtain rfl := Option.some.inj (show some (c.1, d) = some b from hb)
      obtain ⟨h1, h2⟩ := h.2.2 i a c (by rw [List.getElem?_append_left (by omega)]; exact ha) (by rw [List.getElem?_append_right (by omega), hb', Nat.sub_self]; rfl)
      exact ⟨h1, by show a.2 ≤ d; grind⟩
theorem pv_third {H : Hp} {z : Addr} (h : H z = some (.tup [.int 1, .int 3])) : PV H z (1 / 3) 2 := ⟨1, 3, h, ⟨by decide, by decide⟩, by unfold vq; push_cast; rfl, by decide, by decide⟩
/-- one more above -/
theorem vq_up {t b : Int} (hb : 0 < b) : vq t b < vq (t + 1) b := (vq_lt hb hb).mp (Int.mul_lt_mul_of_pos_right (by omega) hb)
end

/-! ### a line == an integer -/
section
variable {X : Cx} {k : Nat} {C f : Addr} {fd : FuncData} {ps : List Str} {sp : Sp} {CX : CXT} {E : XK}
theorem room128 {k : Nat} {A : Around} (r : Room k A) : A.units + 128 < cLine := by have := r.un; omega
def rLI (C : Addr) (sp : Sp) (E : XK) : R2 := fun x y H Q => ∃ a dx fs i, x = .ref a ∧ y = .int i ∧ H a = some (.ins C dx fs) ∧ sp [.ref a, .int i] H Q E
theorem cmp_ownI (O : OthC X.K C f) (hn : PySem.W.subIn X.K (.type "int") (.ref C) = some false) (F : FnOk X.prog X.w X.K X.mg X.base CX k f fd ps sp) (hr : Room k X.A) (hb : Binds X.K fd ps []) (hx : Passes CX X E) : OpR X (compareOp .Eq) (rLI C sp E) := by
  intro pins s σ H x y v u Q I rx ry h
  obtain ⟨a, dx, fs, z, rfl, rfl, ea, q⟩ := h
  obtain rfl : v = Value.ref a := rx
  obtain ⟨t, rfl⟩ := ry
  obtain ⟨mA, J, _⟩ := ins_get I.hok ea
  obtain ⟨od, J, _⟩ := J.look
  obtain ⟨m, hF⟩ := I.fr
  show wpAny (model X.prog X.w) X.A (richCompare .Eq (.ref a) (.int z t)) (EP X pins σ Q) X.xe s
  refine PySem.W.cmp_K (op := .Eq) (tb := .type "int") hr.units0 hF I.ok.mod.kin J (PySem.W.Looks.of_pure rfl) ?_ O.eq O.fn ?_
  · simp [PySem.W.notFirst, hn]
  · exact wpAny_mono (run_own (vs := [V.ref a, V.int z]) F hr hb hx I (.cons rfl (.cons ⟨t, rfl⟩ .nil)) q) (fun _ _ w => back_of w) fun _ _ e => e
end
section
variable {P : Program} {w : World} {K : PySem.W.Frag} {mg : Str → Option Value} {base : Heap}
def spLineEqI : Sp := fun vs H Q _ => ∃ (p : Addr) (i : Int), vs = [.ref p, .int i] ∧ Q (.bl false) H
theorem ok_lineeqI (T : Txt K mg) : FnOk P w K mg base CX0 3 T.f_Line_eq T.d_Line_eq ["self", "other"] spLineEqI := by
  have G_Ratio_eq : FnOk P w K mg base CX0 1 T.f_Ratio_eq T.d_Ratio_eq ["self", "other"] (spEqV T.f_Ratio) := okv_eq T
  refine T.F_Line_eq.ok sc_Line_eq (fun vs H Q E h => ?_) (fun cdv A outer s H vs Q E hr h => ?_)
  · obtain ⟨p, i, rfl, _⟩ := h
    rfl
  · obtain ⟨p, i, rfl, k⟩ := h
    refine ⟨_, (pss_cons (ps_if (pt_not (pt_val (pe_callB call_isi (by rfl) T.n_isinstance (by decide +kernel) (pa_cons (pv 1) (pa_cons (pe_glob (v := .ref T.f_Line) rfl T.m_Line rfl) pa_nil)))))
      (pss_one (ps_ret pe_bl))
      pss_nil)
    (pss_one (ps_ret (pe_and (pe_cmpR (op_tupB T.a_Ratio_eq T.i_Ratio_eq G_Ratio_eq (hr.mono (by decide)) T.b_Ratio_eq pass0) (pe_fld (pv 0) rfl) (pe_fld (pv 1) rfl) (nomark _)) (pe_and (pe_cmpR (op_tupB T.a_Ratio_eq T.i_Ratio_eq G_Ratio_eq (hr.mono (by decide)) T.b_Ratio_eq pass0) (pe_fld (pv 0) rfl) (pe_fld (pv 1) rfl) (nomark _)) (pe_one (pe_cmpR (op_tupB T.a_Ratio_eq T.i_Ratio_eq G_Ratio_eq (hr.mono (by decide)) T.b_Ratio_eq pass0) (pe_fld (pv 0) rfl) (pe_fld (pv 1) rfl) (nomark _)))))))), ?_⟩
    exact ⟨_, rfl, .int i, .ref T.f_Line, .type "int", .ref T.f_Line, false, rfl, .own _, .base (.int i), T.ki_Line_int, false, rfl, iteT k⟩
end
/-! ### the law -/
section
variable {P : Program} {w : World} {K : PySem.W.Frag} {mg : Str → Option Value} {base : Heap}
/-- what is known before the pairs are made -/
def Ahead (S st : Addr) (n m : Nat) (σ : L2.St) (H : Hp) : Prop := ∃ (L r : Addr) (cs : List (Rat × Rat)) (s : Rat) (x4 : Option V) (G : Hp), σ = [some (.ref S), some (.ref st), some (.ref L), some (.ref r), x4, none, none, none, none, none, none, none, none, none, none, none, none, none, none] ∧ DSt G H st m ∧ CorP G L cs n ∧ cs.length ≤ 6 ∧ PV G r s n
def AheadN (S st : Addr) (n m : Nat) (σ : L2.St) (H : Hp) : Prop := ∃ (L r : Addr) (cs : List (Rat × Rat)) (s : Rat) (x4 : Option V) (G : Hp), σ = [some (.ref S), some (.ref st), some (.ref L), some (.ref r), x4, none, none, none, none, none, none, none, none, none, none, none, none, none, none] ∧ DSt G H st m ∧ CorP G L cs n ∧ cs ≠ [] ∧ cs.length ≤ 6 ∧ PV G r s n
theorem pick5 {r : Int} (h0 : 0 ≤ r) (h1 : r < 5) : ∃ A : Nat, atI [V.int 0, .int 0, .int 1, .int 1, .int 2] r = some (V.int (A : Int)) ∧ A ≤ 2 := by
  have : r = 0 ∨ r = 1 ∨ r = 2 ∨ r = 3 ∨ r = 4 := by omega
  rcases this with rfl | rfl | rfl | rfl | rfl
  · exact ⟨0, rfl, by decide⟩
  · exact ⟨0, rfl, by decide⟩
  · exact ⟨1, rfl, by decide⟩
  · exact ⟨1, rfl, by decide⟩
  · exact ⟨2, rfl, by decide⟩
theorem paired_refs {K : PySem.W.Frag} {H : Hp} : ∀ us : List Addr, Paired (EqV K H) (us.map V.ref) (us.map V.ref)
  | [] => .nil
  | a :: r => .cons (.same a) (paired_refs r)
theorem up_sz {t : Int} {n : Nat} (h : t.natAbs < 2 ^ n) : (t + 1).natAbs < 2 ^ (n + 1) := by
  have : 1 ≤ 2 ^ n := Nat.one_le_two_pow
  rw [Nat.pow_succ]
  omega
def spLaw (K : PySem.W.Frag) : Sp := fun vs H Q _ => ∃ (a : Addr) (ns : List Int), vs = [.ref a] ∧ SqL K H a (ns.map V.int) ∧ ns.length ≤ 63 ∧ ∀ H', Q (.bl true) H'
set_option maxHeartbeats 4000000 in
theorem ok_law {f : Addr} {fd : FuncData} (T : Txt K mg) (F : Fun K "law" "law" s_law f fd) : FnOk P w K mg base CX0 10 f fd ["_law_script"] (spLaw K) := by
  have G_start : FnOk P w K mg base CX0 1 T.f_start T.d_start ["_law_script"] (spStart K) := ok_start T
  have G_draw : FnOk P w K mg base CX0 1 T.f_draw T.d_draw ["_law_state", "_law_size"] spDraw := ok_draw T
  have G_corners := ok_corners (P := P) (w := w) (base := base) T
  have G_spoiled := ok_spoiled (P := P) (w := w) (base := base) T
  have G_value := okv_value (P := P) (w := w) (base := base) T
  have G_due := ok_due (P := P) (w := w) (base := base) T
  have G_made := ok_madeD (P := P) (w := w) (base := base) T
  have G_told := ok_told (P := P) (w := w) (base := base) T
  have G_bent_right := ok_bent (P := P) (w := w) (base := base) T
  have G_plus : FnOk P w K mg base CX0 2 T.f_plus T.d_plus ["_law_one", "_law_two"] spPlusV := okv_plus T
  have G_Ratio_init : FnOk P w K mg base CX0 1 T.f_Ratio_init T.d_Ratio_init ["self", "top", "bottom"] (spInit T.f_Ratio) := ok_init T
  have G_Line_eq := ok_lineeqB (P := P) (w := w) (base := base) T
  have GI_Line_eq := ok_lineeqI (P := P) (w := w) (base := base) T
  have GX_Line_init : FnOk P w K mg base (L2.CX P w) 7 T.f_Line_init T.d_Line_init ["self", "corners", "slope"] (spLineG K T.f_Line T.f_Ratio T.f_OutOfRange T.f_BadCount) := ok_lineG T
  have G_Line_init := calm_of GX_Line_init
  have G_Line_corners : FnOk P w K mg base CX0 1 T.f_Line_corners T.d_Line_corners ["self"] (spCornersP T.f_Line T.f_Ratio) := ok_cornersP T
  have z2 : 2 ≤ sizeLine := by decide
  have z1 : 1 ≤ sizeLine := by decide
  refine F.ok sc_law (fun vs H Q E h => ?_) (fun cdv A outer s0 H vs Q E hr h => ?_)
  · obtain ⟨S, ns, rfl, _⟩ := h
    rfl
  · obtain ⟨S, ns, rfl, hS, hns, k⟩ := h
    refine ⟨_, (pss_cons (ps_set (i := 1) sc_law.nd rfl (Or.inr rfl) (pe_call G_start (hr.mono (by decide)) rfl T.m_start T.F_start.kp T.b_start .nil pass0 (pa_cons (pv 0) pa_nil)))
    (pss_cons (ps_asg (pe_call G_corners (hr.mono (by decide)) rfl T.m_corners T.F_corners.kp T.b_corners .nil pass0 (pa_cons (pv 1) pa_nil)) (pg_tup rfl (pgs_cons (pg_name (i := 2) sc_law.nd rfl (Or.inl rfl)) (pgs_cons (pg_name (i := 3) sc_law.nd rfl (Or.inl rfl)) pgs_nil))))
    (C8.pss_cut (ps_for PassesOwn.never rfl (pi_range1 rfl T.n_range (pa_cons (pe_ix ix_list (pe_lst (pa_cons pe_int (pa_cons pe_int (pa_cons pe_int (pa_cons pe_int (pa_cons pe_int pa_nil)))))) (pe_call G_draw (hr.mono (by decide)) rfl T.m_draw T.F_draw.kp T.b_draw .nil pass0 (pa_cons (pv 1) (pa_cons pe_int pa_nil))) (fun _ _ => rfl)) pa_nil)) (pg_name (i := 4) sc_law.nd rfl (Or.inl rfl))
      (pss_one (ps_asg (pe_call G_spoiled (hr.mono (by decide)) rfl T.m_spoiled T.F_spoiled.kp T.b_spoiled .nil pass0 (pa_cons (pv 1) (pa_cons (pv 2) (pa_cons (pv 3) pa_nil)))) (pg_tup rfl (pgs_cons (pg_name (i := 2) sc_law.nd rfl (Or.inl rfl)) (pgs_cons (pg_name (i := 3) sc_law.nd rfl (Or.inl rfl)) pgs_nil))))))
    (C8.pss_cut (ps_if (pt_cmpR op_eq (pe_call G_draw (hr.mono (by decide)) rfl T.m_draw T.F_draw.kp T.b_draw .nil pass0 (pa_cons (pv 1) (pa_cons pe_int pa_nil))) pe_int (nomark _))
      (pss_one (ps_set (i := 2) sc_law.nd rfl (Or.inl rfl) (pe_lst pa_nil)))
      pss_nil)
    (pss_cons (ps_setLc (i := 5) (own := [("_law_corner", 15)]) (g := gName 15) (tt := tYes) rfl sc_law.nd rfl rfl (sw_true rfl rfl rfl (by decide +kernel)) (pi_list (pv 2)) (blkOk_by (N := ["_law_script", "_law_state", "_law_bends", "_law_rise", "_law_turn", "_law_pairs", "_law_given", "_law_passed", "_law_due_here", "_law_line_here", "_law_plain_here", "_law_same", "_law_near", "_law_other", "_law_steeper", "_law_corner", "_law_x", "_law_y", "_law_pair"]) (sc := defScope s_law) (by decide +kernel)) (fun _ _ _ _ _ => pg_name (i := 15) sc_law.nd rfl (Or.inl rfl)) (fun _ _ _ _ _ => pts_nil) (fun _ _ _ _ _ => (pe_tup (pa_cons (pe_call G_value (hr.mono (by decide)) rfl T.m_value T.F_value.kp T.b_value .nil pass0 (pa_cons (pv 1) (pa_cons (pe_ix (show IxR _ (rIxT K) from ix_tup) (pv 15) pe_int (fun _ _ => rfl)) pa_nil))) (pa_cons (pe_call G_value (hr.mono (by decide)) rfl T.m_value T.F_value.kp T.b_value .nil pass0 (pa_cons (pv 1) (pa_cons (pe_ix (show IxR _ (rIxT K) from ix_tup) (pv 15) pe_int (fun _ _ => rfl)) pa_nil))) pa_nil)))))
    (pss_cons (ps_set (i := 6) sc_law.nd rfl (Or.inl rfl) (pe_call G_value (hr.mono (by decide)) rfl T.m_value T.F_value.kp T.b_value .nil pass0 (pa_cons (pv 1) (pa_cons (pv 3) pa_nil))))
    (pss_cons (ps_set (i := 7) sc_law.nd rfl (Or.inl rfl) (pe_callTy call_list_of (by rfl) T.n_list (by decide +kernel) (pa_cons (pv 5) pa_nil)))
    (pss_cons (ps_set (i := 8) sc_law.nd rfl (Or.inl rfl) (pe_call G_due (hr.mono (by decide)) rfl T.m_due T.F_due.kp T.b_due .nil pass0 (pa_cons (pv 2) (pa_cons (pv 3) (pa_cons (pv 5) (pa_cons (pv 6) pa_nil))))))
    (pss_cons (ps_if (PW.pt (pw_or (pt_cmpR (op_neMix (room128 hr)) (pe_call G_made (hr.mono (by decide)) rfl T.m_made T.F_made.kp T.b_made .nil pass0 (pa_cons (pv 7) (pa_cons (pv 6) pa_nil))) (pv 8) (nomark _)) (pw_or (pt_cmpR (op_neMix (room128 hr)) (pv 7) (pv 5) (nomark _)) (pw_or1 (pt_cmpR (op_neMix (room128 hr)) (pe_call G_made (hr.mono (by decide)) rfl T.m_made T.F_made.kp T.b_made .nil pass0 (pa_cons (pe_callTy call_tuple_of (by rfl) T.n_tuple (by decide +kernel) (pa_cons (pv 5) pa_nil)) (pa_cons (pv 6) pa_nil))) (pv 8) (nomark _))))))
      (pss_one (ps_ret pe_bl))
      pss_nil)
    (pss_cons (ps_if (pt_cmpR op_ne (pe_ix ix_list (pv 8) pe_int (fun _ _ => rfl)) pe_str (nomark _))
      (pss_one (ps_ret pe_bl))
      pss_nil)
    (pss_cons (ps_set (i := 9) sc_law.nd rfl (Or.inl rfl) (pe_makeK0 T.mk_Line G_Line_init (hr.mono (by decide)) rfl T.m_Line T.kb_Line_init_slope_corners pass0 (pk_cons (pv 6) (pk_cons (pv 7) pk_nil))))
    (pss_cons (ps_expr (pe_bm PySem.F.plainAttrs_list PySem.F.slot_list_append PySem.F.type_list_append mt_append (pv 7) (pa_cons (pe_tup (pa_cons pe_int (pa_cons pe_int pa_nil))) pa_nil)))
    (pss_cons (ps_set (i := 10) sc_law.nd rfl (Or.inl rfl) (pe_ix ix_tup (pe_ix ix_list (pv 8) pe_int (fun _ _ => rfl)) pe_int (fun _ _ => rfl)))
    (pss_cons (ps_set (i := 11) sc_law.nd rfl (Or.inl rfl) (pe_make T.mk_Line G_Line_init (hr.mono (by decide)) rfl T.m_Line T.b_Line_init .nil pass0 (pa_cons (pe_lc (own := [("_law_x", 16), ("_law_y", 17)]) (g := gTup K 2 (gCons (gName 16) (gCons (gName 17) gNil))) (tt := tYes) rfl sc_law.nd (pi_list (pv 10)) (blkOk_by (N := ["_law_script", "_law_state", "_law_bends", "_law_rise", "_law_turn", "_law_pairs", "_law_given", "_law_passed", "_law_due_here", "_law_line_here", "_law_plain_here", "_law_same", "_law_near", "_law_other", "_law_steeper", "_law_corner", "_law_x", "_law_y", "_law_pair"]) (sc := defScope s_law) (by decide +kernel)) (fun _ _ _ _ _ => (pg_tup rfl (pgs_cons (pg_name (i := 16) sc_law.nd rfl (Or.inl rfl)) (pgs_cons (pg_name (i := 17) sc_law.nd rfl (Or.inl rfl)) pgs_nil)))) (fun _ _ _ _ _ => pts_nil) (fun _ _ _ _ _ => (pe_tup (pa_cons (pe_make T.mk_Ratio G_Ratio_init (hr.mono (by decide)) rfl T.m_Ratio T.b2_Ratio_init T.v2_Ratio_init pass0 (pa_cons (pe_ix (show IxR _ (rIxT K) from ix_tup) (pv 16) pe_int (fun _ _ => rfl)) (pa_cons (pe_ix (show IxR _ (rIxT K) from ix_tup) (pv 16) pe_int (fun _ _ => rfl)) pa_nil))) (pa_cons (pe_make T.mk_Ratio G_Ratio_init (hr.mono (by decide)) rfl T.m_Ratio T.b2_Ratio_init T.v2_Ratio_init pass0 (pa_cons (pe_ix (show IxR _ (rIxT K) from ix_tup) (pv 17) pe_int (fun _ _ => rfl)) (pa_cons (pe_ix (show IxR _ (rIxT K) from ix_tup) (pv 17) pe_int (fun _ _ => rfl)) pa_nil))) pa_nil))))) (pa_cons (pe_make T.mk_Ratio G_Ratio_init (hr.mono (by decide)) rfl T.m_Ratio T.b2_Ratio_init T.v2_Ratio_init pass0 (pa_cons (pe_ix ix_tup (pv 3) pe_int (fun _ _ => rfl)) (pa_cons (pe_ix ix_tup (pv 3) pe_int (fun _ _ => rfl)) pa_nil))) pa_nil))))
    (pss_cons (ps_set (i := 12) sc_law.nd rfl (Or.inl rfl) (pe_op op_cat (pe_slice sl_list (pv 10) po_none (po_some (pe_un un_neg pe_int))) (pe_lst (pa_cons (pe_tup (pa_cons (pe_ix ix_tup (pe_ix ix_list (pv 10) (pe_un un_neg pe_int) (fun _ _ => rfl)) pe_int (fun _ _ => rfl)) (pa_cons (pe_call G_plus (hr.mono (by decide)) rfl T.m_plus T.F_plus.kp T.b_plus .nil pass0 (pa_cons (pe_ix ix_tup (pe_ix ix_list (pv 10) (pe_un un_neg pe_int) (fun _ _ => rfl)) pe_int (fun _ _ => rfl)) (pa_cons (pe_tup (pa_cons pe_int (pa_cons pe_int pa_nil))) pa_nil))) pa_nil))) pa_nil))))
    (pss_cons (ps_set (i := 13) sc_law.nd rfl (Or.inl rfl) (pe_make T.mk_Line G_Line_init (hr.mono (by decide)) rfl T.m_Line T.b_Line_init .nil pass0 (pa_cons (pe_lc (own := [("_law_x", 16), ("_law_y", 17)]) (g := gTup K 2 (gCons (gName 16) (gCons (gName 17) gNil))) (tt := tYes) rfl sc_law.nd (pi_list (pv 12)) (blkOk_by (N := ["_law_script", "_law_state", "_law_bends", "_law_rise", "_law_turn", "_law_pairs", "_law_given", "_law_passed", "_law_due_here", "_law_line_here", "_law_plain_here", "_law_same", "_law_near", "_law_other", "_law_steeper", "_law_corner", "_law_x", "_law_y", "_law_pair"]) (sc := defScope s_law) (by decide +kernel)) (fun _ _ _ _ _ => (pg_tup rfl (pgs_cons (pg_name (i := 16) sc_law.nd rfl (Or.inl rfl)) (pgs_cons (pg_name (i := 17) sc_law.nd rfl (Or.inl rfl)) pgs_nil)))) (fun _ _ _ _ _ => pts_nil) (fun _ _ _ _ _ => (pe_tup (pa_cons (pe_make T.mk_Ratio G_Ratio_init (hr.mono (by decide)) rfl T.m_Ratio T.b2_Ratio_init T.v2_Ratio_init pass0 (pa_cons (pe_ix (show IxR _ (rIxT K) from ix_tup) (pv 16) pe_int (fun _ _ => rfl)) (pa_cons (pe_ix (show IxR _ (rIxT K) from ix_tup) (pv 16) pe_int (fun _ _ => rfl)) pa_nil))) (pa_cons (pe_make T.mk_Ratio G_Ratio_init (hr.mono (by decide)) rfl T.m_Ratio T.b2_Ratio_init T.v2_Ratio_init pass0 (pa_cons (pe_ix (show IxR _ (rIxT K) from ix_tup) (pv 17) pe_int (fun _ _ => rfl)) (pa_cons (pe_ix (show IxR _ (rIxT K) from ix_tup) (pv 17) pe_int (fun _ _ => rfl)) pa_nil))) pa_nil))))) (pa_cons (pe_make T.mk_Ratio G_Ratio_init (hr.mono (by decide)) rfl T.m_Ratio T.b2_Ratio_init T.v2_Ratio_init pass0 (pa_cons (pe_ix ix_tup (pv 3) pe_int (fun _ _ => rfl)) (pa_cons (pe_ix ix_tup (pv 3) pe_int (fun _ _ => rfl)) pa_nil))) pa_nil))))
    (pss_cons (ps_set (i := 14) sc_law.nd rfl (Or.inl rfl) (pe_make T.mk_Line G_Line_init (hr.mono (by decide)) rfl T.m_Line T.b_Line_init .nil pass0 (pa_cons (pe_lc (own := [("_law_x", 16), ("_law_y", 17)]) (g := gTup K 2 (gCons (gName 16) (gCons (gName 17) gNil))) (tt := tYes) rfl sc_law.nd (pi_list (pv 10)) (blkOk_by (N := ["_law_script", "_law_state", "_law_bends", "_law_rise", "_law_turn", "_law_pairs", "_law_given", "_law_passed", "_law_due_here", "_law_line_here", "_law_plain_here", "_law_same", "_law_near", "_law_other", "_law_steeper", "_law_corner", "_law_x", "_law_y", "_law_pair"]) (sc := defScope s_law) (by decide +kernel)) (fun _ _ _ _ _ => (pg_tup rfl (pgs_cons (pg_name (i := 16) sc_law.nd rfl (Or.inl rfl)) (pgs_cons (pg_name (i := 17) sc_law.nd rfl (Or.inl rfl)) pgs_nil)))) (fun _ _ _ _ _ => pts_nil) (fun _ _ _ _ _ => (pe_tup (pa_cons (pe_make T.mk_Ratio G_Ratio_init (hr.mono (by decide)) rfl T.m_Ratio T.b2_Ratio_init T.v2_Ratio_init pass0 (pa_cons (pe_ix (show IxR _ (rIxT K) from ix_tup) (pv 16) pe_int (fun _ _ => rfl)) (pa_cons (pe_ix (show IxR _ (rIxT K) from ix_tup) (pv 16) pe_int (fun _ _ => rfl)) pa_nil))) (pa_cons (pe_make T.mk_Ratio G_Ratio_init (hr.mono (by decide)) rfl T.m_Ratio T.b2_Ratio_init T.v2_Ratio_init pass0 (pa_cons (pe_ix (show IxR _ (rIxT K) from ix_tup) (pv 17) pe_int (fun _ _ => rfl)) (pa_cons (pe_ix (show IxR _ (rIxT K) from ix_tup) (pv 17) pe_int (fun _ _ => rfl)) pa_nil))) pa_nil))))) (pa_cons (pe_make T.mk_Ratio G_Ratio_init (hr.mono (by decide)) rfl T.m_Ratio T.b2_Ratio_init T.v2_Ratio_init pass0 (pa_cons (pe_op op_add (pe_ix ix_tup (pv 3) pe_int (fun _ _ => rfl)) pe_int) (pa_cons (pe_ix ix_tup (pv 3) pe_int (fun _ _ => rfl)) pa_nil))) pa_nil))))
    (pss_cons (ps_if (PW.pt (pw_or (pt_cmpR (ne_own T.none_Line G_Line_eq (hr.mono (by decide)) T.b_Line_eq pass0) (pv 9) (pv 11) (nomark _)) (pw_or (pt_cmpR (cmp_own T.a_Line_eq T.i_Line_eq G_Line_eq (hr.mono (by decide)) T.b_Line_eq pass0) (pv 9) (pv 13) (nomark _)) (pw_or (pt_cmpR (cmp_own T.a_Line_eq T.i_Line_eq G_Line_eq (hr.mono (by decide)) T.b_Line_eq pass0) (pv 13) (pv 9) (nomark _)) (pw_or (pt_cmpR (cmp_own T.a_Line_eq T.i_Line_eq G_Line_eq (hr.mono (by decide)) T.b_Line_eq pass0) (pv 9) (pv 14) (nomark _)) (pw_or1 (pt_cmpR (cmp_ownI T.oth_Line T.sn_Line_int GI_Line_eq (hr.mono (by decide)) T.b_Line_eq pass0) (pv 9) pe_int (nomark _))))))))
      (pss_one (ps_ret pe_bl))
      pss_nil)
    (C8.pss_cut (ps_if (PW.pt (pw_and (pt_cmpR op_gt (pe_callB call_len_seq (by rfl) T.n_len (by decide +kernel) (pa_cons (pv 10) pa_nil)) pe_int (nomark _)) (pw_and (pt_cmpR (op_neD hr.units) (pe_ix ix_tup (pe_ix ix_list (pv 10) pe_int (fun _ _ => rfl)) pe_int (fun _ _ => rfl)) (pe_ix ix_tup (pe_ix ix_list (pv 10) pe_int (fun _ _ => rfl)) pe_int (fun _ _ => rfl)) (nomark _)) (pw_and1 (pt_not (pt_val (pe_call G_bent_right (hr.mono (by decide)) rfl T.m_bent_right T.F_bent_right.kp T.b_bent_right .nil pass0 (pa_cons (pv 9) (pa_cons (pv 10) (pa_cons (pv 3) pa_nil))))))))))
      (pss_one (ps_ret pe_bl))
      pss_nil)
    (pss_cons (ps_if (PW.pt (pw_or (pt_not (pt_val (pe_callB call_isi (by rfl) T.n_isinstance (by decide +kernel) (pa_cons (pe_prop (pv 9) T.cl_Line T.p_Line_corners G_Line_corners (hr.mono (by decide)) T.b_Line_corners .nil pass0 rfl) (pa_cons (pe_bltn (v := .ty "tuple") (u := .type "tuple") (by rfl) T.n_tuple (by decide +kernel) rfl) pa_nil))))) (pw_or1 (pt_cmpR (op_neD hr.units) (pe_lc (own := [("_law_pair", 18)]) (g := gName 18) rfl sc_law.nd (pi_tup (pe_prop (pv 9) T.cl_Line T.p_Line_corners G_Line_corners (hr.mono (by decide)) T.b_Line_corners .nil pass0 rfl)) (blkOk_by (N := ["_law_script", "_law_state", "_law_bends", "_law_rise", "_law_turn", "_law_pairs", "_law_given", "_law_passed", "_law_due_here", "_law_line_here", "_law_plain_here", "_law_same", "_law_near", "_law_other", "_law_steeper", "_law_corner", "_law_x", "_law_y", "_law_pair"]) (sc := defScope s_law) (by decide +kernel)) (fun _ _ _ _ _ => pg_name (i := 18) sc_law.nd rfl (Or.inl rfl)) (fun _ _ _ _ _ => pts_one (pt_not (pt_val (pe_callB (show CallR _ (.builtin "isinstance") (rIsi K) from call_isi) (by rfl) T.n_isinstance (by decide +kernel) (pa_cons (pv 18) (pa_cons (pe_bltn (v := .ty "tuple") (u := .type "tuple") (by rfl) T.n_tuple (by decide +kernel) rfl) pa_nil)))))) (fun _ _ _ _ _ => (pv 18))) (pe_lst pa_nil) (nomark _)))))
      (pss_one (ps_ret pe_bl))
      pss_nil)
    (pss_one (ps_ret (pe_and (pe_cmpR (op_eqD hr.units) (pe_call G_told (hr.mono (by decide)) rfl T.m_told T.F_told.kp T.b_told .nil pass0 (pa_cons (pv 9) pa_nil)) (pe_ix ix_list (pv 8) pe_int (fun _ _ => rfl)) (nomark _)) (pe_one (pe_cmpR (op_eqD hr.units) (pe_call G_told (hr.mono (by decide)) rfl T.m_told T.F_told.kp T.b_told .nil pass0 (pa_cons (pv 11) pa_nil)) (pe_ix ix_list (pv 8) pe_int (fun _ _ => rfl)) (nomark _)))))))))))))))))))))))))), ?_⟩
    refine ⟨_, rfl, S, ns, rfl, hS, hns, fun st H1 d1 => ?_⟩
    refine ⟨_, rfl, st, 0, H, rfl, d1, by decide, fun o L r cs s H2 G2 s2 d2 eo hC hcor hl6 pr hs => ?_⟩
    refine ⟨_, _, rfl, SqT.of (d2.same _ _ eo), rfl, _, _, rfl, _, _, rfl, rfl, ?_⟩
    have hne : cs ≠ [] := hcor.1
    clear hs
    refine ⟨AheadN S st 194 120, ?_, ?_⟩
    · refine ⟨by show 5 ≤ sizeLine; decide, fun l1 nl1 => ?_⟩
      refine ⟨_, rfl, _, st, _, 5, rfl, d2.new nl1, by decide, by decide, by decide, fun r1 H3 r10 r11 d3 => ?_⟩
      obtain ⟨A, eA, hA⟩ := pick5 r10 r11
      have s3 := same_upd (o := .lst [V.int 0, .int 0, .int 1, .int 1, .int 2]) (d2.free nl1)
      refine ⟨l1, _, r1, _, rfl, rfl, SqL.of (d3.same _ _ upd_same), eA, (A : Int), rfl, by omega, by omega, ?_⟩
      rw [Int.toNat_natCast]
      refine for_range (lo := 0) (n := A) (fun i σ H' => AheadN S st (180 + 7 * i) (101 + 6 * i) σ H') ⟨L, r, cs, s, none, _, rfl, d3.mono (by omega), hC.on s3, hne, hl6, pr.on s3⟩ ?_ ?_
      · rintro i σ H4 hi ⟨L4, r4, cs4, s4, x4, G4, rfl, d4, hC4, hne4, hl4, pr4⟩
        refine ⟨_, rfl, _, rfl, _, rfl, st, L4, r4, _, G4, cs4, s4, _, rfl, d4, by omega, hC4, pr4, hne4, by omega, by omega, fun o5 L5 r5 cs5 s5 H5 G5 sg5 d5 e5 hC5 hne5 hl5 pr5 => ?_⟩
        refine ⟨_, _, rfl, SqT.of (d5.same _ _ e5), rfl, _, _, rfl, _, _, rfl, rfl, ?_⟩
        exact ⟨L5, r5, cs5, s5, _, G5, rfl, d5.mono (by omega), hC5.mono (by omega), hne5, by omega, pr5.mono (by omega)⟩
      · rintro σ H4 ⟨L4, r4, cs4, s4, x4, G4, rfl, d4, hC4, hne4, hl4, pr4⟩
        exact ⟨L4, r4, cs4, s4, x4, G4, rfl, d4.mono (by omega), hC4.mono (by omega), hne4, hl4, pr4.mono (by omega)⟩
    clear d1 d2 eo hC hcor hl6 pr hne
    rintro σ H1 ⟨L1, r1, cs1, s1, x1, G1, rfl, d1, hC1, hne1, hl1, pr1⟩
    refine ⟨Ahead S st 194 121, ?_, ?_⟩
    · refine ⟨_, rfl, G1, st, _, 25, rfl, d1, by decide, by decide, by decide, fun r2 H2 r20 r21 d2 => ?_⟩
      refine ⟨rfl, _, rfl, ite2 (fun _ => ?_) fun _ => ?_⟩
      · refine ⟨Nat.zero_le _, fun l3 nl3 => ?_⟩
        have s3 := same_upd (o := .lst []) (d2.free nl3)
        exact ⟨l3, r1, [], s1, _, _, rfl, d2.new nl3, ⟨[], upd_same, rfl, fun i t d h => by simp at h⟩, by decide, pr1.on s3⟩
      · exact ⟨L1, r1, cs1, s1, _, _, rfl, d2, hC1, hl1, pr1⟩
    clear d1 hC1 hne1 hl1 pr1
    rintro σ H1 ⟨L, r, cs, s, x4, G1, rfl, d1, hC, hl6, pr⟩
    obtain ⟨qs, hL, hql, hqs⟩ := id hC
    refine ⟨_, rfl, L, rfl, ⟨_, SqL.of (d1.same _ _ hL)⟩, fun D nD => ?_⟩
    have gD : G1 D = none := d1.free nD
    refine lc_list (K := K) (a := L) (xs := qs.map V.ref) (fun i H' => ∃ (G' : Hp) (ts : List Addr), DSt G' H' st (121 + 4 * i) ∧ Same G1 G' ∧ G' D = some (.lst (ts.map V.ref)) ∧ ts.length = i ∧ TupsN T.f_Ratio G' ts cs 194) ⟨_, [], d1.new nD, same_upd gD, upd_same, rfl, fun i t d h => by simp at h⟩ (fun i H' _ ⟨G', ts, d', sG, _⟩ => SqL.of (d'.same _ _ (sG _ _ hL))) ?_ ?_
    · intro i x H' hi ⟨G2, ts, d2, s2, eD, htl, hT⟩
      have hi' : i < qs.length := by
        have := (List.getElem?_eq_some_iff.mp hi).1
        rw [List.length_map] at this
        exact this
      rw [List.getElem?_map, List.getElem?_eq_getElem hi'] at hi
      obtain rfl := Option.some.inj hi
      have ci : cs[i]? = some (cs[i]'(by omega)) := List.getElem?_eq_getElem (by omega)
      obtain ⟨u0, v0, et, pu, pv⟩ := hqs i _ _ (List.getElem?_eq_getElem hi') ci
      have et1 := d2.same _ _ (s2 _ _ et)
      refine ⟨rfl, _, rfl, _, rfl, _, _, 0, .ref u0, rfl, rfl, SqT.of et1, at0, st, u0, _, 194, G2, 121 + 4 * i, rfl, pu.on s2, by omega, d2, by omega, fun u H3 nu nlu d3 => ?_⟩
      obtain ⟨G3, d3', sG3, nl3⟩ := d3.grow
      have s3 := s2.trans sG3
      refine ⟨_, rfl, _, rfl, _, _, 1, .ref v0, rfl, rfl, SqT.of (d3'.same _ _ (s3 _ _ et)), at1, st, v0, _, 194, G3, 121 + 4 * i + 2, rfl, pv.on s3, by omega, d3', by omega, fun v H4 nv nlv d4 => ?_⟩
      obtain ⟨G4, d4', sG4, nl4⟩ := d4.grow
      have s4 := s3.trans sG4
      refine ⟨by show 2 ≤ sizeLine; decide, fun Tt nT => ?_⟩
      have d5 := d4'.new (o := .tup [u, v]) nT
      have gT : G4 Tt = none := d4'.free nT
      have s5 := same_upd (o := .tup [u, v]) gT
      have eD5 : (upd G4 Tt (.tup [u, v])) D = some (.lst (ts.map V.ref)) := s5 _ _ (sG4 _ _ (sG3 _ _ eD))
      have hT5 : TupsN T.f_Ratio (upd G4 Tt (.tup [u, v])) (ts ++ [Tt]) cs 194 := (((hT.on sG3).on sG4).on s5).snoc htl ci upd_same (((NV.nl nu nl3).on sG4).on s5) ((NV.nl nv nl4).on s5)
      refine ⟨ts.map V.ref, d5.same _ _ eD5, small1000 (by rw [List.length_map]; omega), upd (upd G4 Tt (.tup [u, v])) D (.lst (ts.map V.ref ++ [V.ref Tt])), ts ++ [Tt], (d5.put eD5).mono (by omega), same_mut (s4.trans s5) gD, ?_, by rw [List.length_append, htl]; rfl, hT5.put eD5⟩
      rw [upd_same, List.map_append]
      rfl
    rintro H2 ⟨G2, us, d2, s2, eD, hul, hT⟩
    rw [List.length_map] at hul d2
    refine ⟨_, rfl, _, rfl, st, r, s, 194, G2, _, rfl, pr.on s2, by omega, d2, by omega, fun y H3 nv nlv d3 => ?_⟩
    have sH := s2.trans d3.same
    have hC := hC.on sH
    have pr := pr.on sH
    have eD := d3.same _ _ eD
    have hT := hT.on d3.same
    rw [hql] at hul
    clear d1 d2 d3 nlv gD s2 sH hqs hL hql
    obtain ⟨uv, huv, hnm⟩ := hT.named hul
    -- the list that is handed over
    refine ⟨_, rfl, D, _, rfl, .inl (SqL.of eD), fun E1 nE => ?_⟩
    have sE := same_upd (o := .lst (us.map V.ref)) nE
    have eE : (upd H3 E1 (.lst (us.map V.ref))) E1 = some (.lst (us.map V.ref)) := upd_same
    generalize upd H3 E1 (.lst (us.map V.ref)) = H4 at sE eE ⊢
    have hcvD : CorV K T.f_Ratio H3 D uv cs 194 := ⟨us, .inl (SqL.of eD), hul, huv, hnm⟩
    have hpa : PairsAt H3 D uv := ⟨us, eD, by rw [hul, huv], fun i t p ht hp => (hnm i t p _ ht hp (List.getElem?_eq_getElem (by have := (List.getElem?_eq_some_iff.mp hp).1; omega))).1⟩
    have hcvE : CorV K T.f_Ratio H4 E1 uv cs 194 := by
      obtain ⟨us', h1, h2, h3, h4⟩ := hcvD.on sE
      exact ⟨us, .inl (SqL.of eE), hul, huv, fun i t p d ht hp hd => let ⟨a, b, c⟩ := hnm i t p d ht hp hd; ⟨sE _ _ a, b.on sE, c.on sE⟩⟩
    refine ⟨_, rfl, _, rfl, _, rfl, _, rfl, L, r, D, y, uv, cs, s, 194, rfl, hC.on sE, pr.on sE, hpa.on sE, huv, by decide, by omega, fun l H5 s5 nl due5 => ?_⟩
    have hv : ∀ (H' : Hp), Same H5 H' → ∀ v, BadV uv y cs s v → EqV K H' v v := fun H' sm v hb => by
      obtain ⟨x, k, e⟩ := badV_nv (K := K) (hcvE.on (s5.trans sm)) ((nv.on sE).on (s5.trans sm)) hb
      exact eqv_nv e
    have n5 := (nv.on sE).on s5
    refine ⟨_, rfl, _, rfl, E1, y, uv, cs, s, 194, 194, rfl, hcvE.on s5, by omega, n5, by decide, by decide, by decide, fun l1 H6 s6 made6 => ?_⟩
    obtain ⟨xs6, ys6, ex6, ey6, pa6⟩ := due_pair (K := K) (hv H6 s6) made6 (due5.on s6)
    refine ⟨_, rfl, l1, l, xs6, ys6, rfl, rfl, ex6, ey6, pa6, ?_⟩
    have eE6 := s6 _ _ (s5 _ _ eE)
    have eD6 := s6 _ _ (s5 _ _ (sE _ _ eD))
    refine ⟨_, rfl, iteF ⟨_, rfl, _, rfl, E1, D, _, _, rfl, rfl, SqL.of eE6, SqL.of eD6, paired_refs us, ?_⟩⟩
    refine ⟨_, rfl, iteF ⟨_, rfl, D, _, rfl, .inl ⟨SqL.of eD6, fun U nU => ?_⟩⟩⟩
    have s7 := same_upd (o := .tup (us.map V.ref)) nU
    have s57 := s6.trans s7
    have hcvU : CorV K T.f_Ratio (upd H6 U (.tup (us.map V.ref))) U uv cs 194 := ⟨us, .inr (SqT.of upd_same), hul, huv, fun i t p d ht hp hd => let ⟨a, b, c⟩ := hnm i t p d ht hp hd; let sx := (sE.trans s5).trans s57; ⟨sx _ _ a, b.on sx, c.on sx⟩⟩
    refine ⟨_, rfl, U, y, uv, cs, s, 194, 194, rfl, hcvU, by omega, n5.on s57, by decide, by decide, by decide, fun l2 H8 s8 made8 => ?_⟩
    have s58 := s57.trans s8
    obtain ⟨xs8, ys8, ex8, ey8, pa8⟩ := due_pair (K := K) (hv H8 s58) made8 (due5.on s58)
    refine ⟨_, rfl, l2, l, xs8, ys8, rfl, rfl, ex8, ey8, pa8, ?_⟩
    refine ⟨_, rfl, iteF ?_⟩
    have due8 := due5.on s58
    have s48 := s5.trans s58
    have eE8 := s48 _ _ eE
    have hcvE := hcvE.on s48
    have hC := (hC.on sE).on s48
    have pr := (pr.on sE).on s48
    have nv := n5.on s58
    have hT := (hT.on sE).on s48
    have el : H5 l = H5 l := rfl
    have elE : l ≠ E1 := fun z => by rw [z, eE] at nl; cases nl
    clear hv made6 xs6 ys6 ex6 ey6 pa6 eE6 eD6 hcvU made8 xs8 ys8 ex8 ey8 pa8 n5 s57 s7 nU hpa hcvD hnm s6 s58 s48 due5 s5 nl el
    rcases due8 with ⟨ecs, el⟩ | ⟨v, _, el⟩ | ⟨hcor, hs, o, el, tel⟩
    · refine ⟨_, rfl, l, _, _, _, rfl, rfl, SqL.of el, rfl, rfl, _, rfl, ?_⟩
      rw [decide_eq_false (fun z => by injection z with z; exact absurd z (by decide +kernel))]
      exact iteT (k _)
    · refine ⟨_, rfl, l, _, _, _, rfl, rfl, SqL.of el, rfl, rfl, _, rfl, ?_⟩
      rw [decide_eq_false (fun z => by injection z with z; exact absurd z (by decide +kernel))]
      exact iteT (k _)
    refine ⟨_, rfl, l, _, _, _, rfl, rfl, SqL.of el, rfl, rfl, _, rfl, ?_⟩
    rw [decide_eq_true rfl]
    refine iteF ?_
    -- the line
    refine ⟨_, rfl, _, rfl, rfl, rfl, fun p dp np ndp nep => ?_⟩
    have s9 : Same H8 (upd (upd H8 dp (.own p)) p (.ins T.f_Line dp [])) := (same_upd ndp).trans (same_upd (by rw [upd_ne (Ne.symm nep)]; exact np))
    have hp9 : (upd (upd H8 dp (.own p)) p (.ins T.f_Line dp [])) p = some (.ins T.f_Line dp []) := upd_same
    generalize upd (upd H8 dp (.own p)) p (.ins T.f_Line dp []) = H9 at s9 hp9 ⊢
    refine ⟨p, dp, E1, y, uv, cs, s, 194, 194, rfl, hp9, hcvE.on s9, by omega, nv.on s9, by decide, by decide, by decide, due_fine hcor hs fun H10 hL10 kp => ⟨rfl, ?_⟩⟩
    have s10 : Same H8 H10 := fun a o ha => kp a o (s9 _ _ ha) (ne_of_none ha np)
    have eE10 := s10 _ _ eE8
    refine ⟨_, rfl, .inl ⟨rfl, _, SqL.of eE10⟩, z2, fun tz ntz => ?_⟩
    have s11 := same_upd (o := .tup [V.int 0, .int 0]) ntz
    refine ⟨E1, _, _, rfl, rfl, s11 _ _ eE10, small1000 (by rw [List.length_map, hul]; omega), ?_⟩
    have eE11 := s11 _ _ eE10
    have s811 := s10.trans s11
    obtain ⟨G, sG, nlG, gG⟩ := hide_of (ys := us.map V.ref ++ [V.ref tz]) eE11
    have hnice : Nice (bends (segs cs s)) := nice_of hcor hs (by omega)
    have hcan : Can (bends (segs cs s)) := can_bends _
    have hlast : lastr (bends (segs cs s)) = s := by rw [lastr_bends, lastr_segs hcor.1]
    have hlen : (bends (segs cs s)).length ≤ 6 := by
      have := (bends_sub (segs cs s)).length_le
      rw [segs_len] at this
      omega
    have hagain : bends (segs (corsOf (bends (segs cs s))) s) = bends (segs cs s) := by
      have := hnice.again hcan (by omega)
      rw [hlast] at this
      exact this
    have hcorB := cor_cors hnice
    obtain ⟨LP, rP, eo, hLP, hrP⟩ := tel.on s811
    have neLP : LP ≠ E1 := cors_ne hLP hcorB.1 eE11 (hT.on s811) hul
    have elG : G l = some (.lst [.str "line", .ref o]) := by rw [gG l elE]; exact s811 _ _ el
    have eoG : G o = some (.tup [.ref LP, .ref rP]) := nlG _ _ eo (fun _ z => nomatch z)
    have hLG : LineAt T.f_Line T.f_Ratio G p (bends (segs cs s)) 778 := (hL10.on s11).nl nlG
    have hLPG : CorP G LP (corsOf (bends (segs cs s))) 194 := hLP.hide nlG (gG LP neLP)
    have hrPG : PV G rP s 194 := hrP.nl nlG
    have prG : PV G r s 194 := (pr.on s811).nl nlG
    have elB := sG _ _ elG
    have eoB := sG _ _ eoG
    have hLB := hLG.on sG
    have hLPB := hLPG.on sG
    have hrPB := hrPG.on sG
    have prB := prG.on sG
    generalize upd (upd H10 tz (.tup [V.int 0, .int 0])) E1 (.lst (us.map V.ref ++ [V.ref tz])) = H11 at elB eoB hLB hLPB hrPB prB ⊢
    clear sG nlG gG elG eoG hLG hLPG hrPG prG eo hLP hrP neLP tel el elE eE8 eE10 eE11 s811 s11 s10 hL10 kp hcvE hC pr nv hT eE sE
    generalize bends (segs cs s) = lb at *
    obtain ⟨qs, eLP, hql, hqs⟩ := id hLPB
    refine ⟨_, rfl, l, _, _, _, rfl, rfl, SqL.of elB, rfl, o, _, _, _, rfl, rfl, SqT.of eoB, rfl, ?_⟩
    -- the same line
    dsimp only [List.set_cons_zero, List.set_cons_succ]
    refine ⟨_, rfl, LP, rfl, ⟨_, SqL.of eLP⟩, fun D1 nD1 => ?_⟩
    refine rcomp_run (i := 16) (j := 17) eLP hql hqs (by decide) (by rw [hql]; unfold corsOf; rw [List.length_map]; omega) nD1 (fun _ _ => rfl) (fun _ _ => rfl) (fun _ _ => rfl) fun H12 us1 s12 eD1 hul1 hT1 => ?_
    obtain ⟨tr1, br1, er1, lr1, vr1, zr1⟩ := id (prB.on s12)
    refine ⟨_, rfl, r, _, _, _, rfl, rfl, SqT.of er1, rfl, _, rfl, r, _, _, _, rfl, rfl, SqT.of er1, rfl, fun q1 dq1 nq1 ndq1 neq1 => ⟨q1, dq1, tr1, br1, rfl, upd_same, lr1.ne, Nat.lt_of_lt_of_le zr1.2 (Nat.pow_le_pow_right (by decide) (by omega)), fun K1 rk1 st1 => ⟨rfl, ?_⟩⟩⟩
    have sk1 := Same.made nq1 ndq1 st1
    have rq1 : RV T.f_Ratio K1 q1 s 194 := ⟨_, _, rk1, Low.of lr1.ne, by rw [vq_low lr1.ne, vr1], zr1.low lr1.ne⟩
    intro p1 d1 np1 nd1 ne1
    have sl1 : Same K1 (upd (upd K1 d1 (.own p1)) p1 (.ins T.f_Line d1 [])) := (same_upd nd1).trans (same_upd (by rw [upd_ne (Ne.symm ne1)]; exact np1))
    have hp1 : (upd (upd K1 d1 (.own p1)) p1 (.ins T.f_Line d1 [])) p1 = some (.ins T.f_Line d1 []) := upd_same
    generalize upd (upd K1 d1 (.own p1)) p1 (.ins T.f_Line d1 []) = L1 at sl1 hp1 ⊢
    have skl1 := sk1.trans sl1
    obtain ⟨uv1, hcv1⟩ := (hT1.on skl1).corV (K := K) (.inl (SqL.of (skl1 _ _ eD1))) hul1
    refine ⟨p1, d1, D1, .ref q1, uv1, _, s, 194, 194, rfl, hp1, hcv1, by unfold corsOf; rw [List.length_map]; omega, (rq1.on sl1).num, by decide, by decide, by decide, due_fine hcorB hs fun M1 hL1 kp1 => ⟨rfl, ?_⟩⟩
    have sm1 : Same K1 M1 := fun a o ha => kp1 a o (sl1 _ _ ha) (ne_of_none ha np1)
    rw [hagain] at hL1
    have s13 := (s12.trans sk1).trans sm1
    obtain ⟨ci, cl, hci⟩ : ∃ ci cl, corsOf lb = ci ++ [cl] := ⟨_, _, (List.dropLast_concat_getLast hcorB.1).symm⟩
    obtain ⟨qi, ql, hqi⟩ : ∃ qi ql, qs = qi ++ [ql] := ⟨_, _, (List.dropLast_concat_getLast (fun z => hcorB.1 (List.length_eq_zero_iff.mp (by rw [← hql, z]; rfl)))).symm⟩
    have hqcl : qi.length = ci.length := by
      have := hql
      rw [hci, hqi, List.length_append, List.length_append] at this
      exact Nat.add_right_cancel this
    obtain ⟨ul, vl, etl, pul, pvl⟩ := hqs qi.length ql cl (by rw [hqi, List.getElem?_append_right (Nat.le_refl _), Nat.sub_self]; rfl) (by rw [hci, hqcl, List.getElem?_append_right (Nat.le_refl _), Nat.sub_self]; rfl)
    have atl : atI (qs.map V.ref) (-1) = some (V.ref ql) := by
      refine atI_end (j := qi.length) ?_ ?_
      · rw [hqi, List.map_append, List.getElem?_append_right (by rw [List.length_map]; exact Nat.le_refl _), List.length_map, Nat.sub_self]
        rfl
      · rw [hqi, List.length_map, List.length_append]
        rfl
    refine ⟨_, rfl, 1, rfl, _, rfl, LP, _, rfl, SqL.of (s13 _ _ eLP), fun A2 nA2 => ?_⟩
    have eA2 : (qs.map V.ref).take ((qs.map V.ref).length - 1) = qi.map V.ref := by
      rw [hqi, List.map_append, List.length_append, List.length_map, List.length_map]
      show (qi.map V.ref ++ [V.ref ql]).take (qi.length + 1 - 1) = _
      rw [Nat.add_sub_cancel, List.take_append_of_le_length (by rw [List.length_map]; exact Nat.le_refl _), List.take_of_length_le (by rw [List.length_map]; exact Nat.le_refl _)]
    rw [cut_m1, eA2]
    have s14 := same_upd (o := .lst (qi.map V.ref)) nA2
    have s1114 := s13.trans s14
    refine ⟨_, rfl, 1, rfl, LP, _, _, _, rfl, rfl, SqL.of (s1114 _ _ eLP), atl, _, _, _, _, rfl, rfl, SqT.of (s1114 _ _ etl), rfl, ?_⟩
    refine ⟨_, rfl, 1, rfl, LP, _, _, _, rfl, rfl, SqL.of (s1114 _ _ eLP), atl, _, _, _, _, rfl, rfl, SqT.of (s1114 _ _ etl), rfl, z2, fun zt nzt => ?_⟩
    have s15 := same_upd (o := .tup [V.int 1, .int 3]) nzt
    refine ⟨vl, zt, _, _, 194, 2, rfl, (pvl.on s1114).on s15, pv_third upd_same, by decide, by decide, fun w H16 nw s16 pw => ?_⟩
    refine ⟨z2, fun Tn nTn => ?_⟩
    have s17 := same_upd (o := .tup [V.ref ul, .ref w]) nTn
    refine ⟨z1, fun Ln nLn => ?_⟩
    have s18 := same_upd (o := .lst [V.ref Tn]) nLn
    have s1418 := ((s15.trans s16).trans s17).trans s18
    refine ⟨A2, Ln, _, _, rfl, rfl, s1418 _ _ upd_same, upd_same, ?_, fun N nN => ?_⟩
    · rw [List.length_map]
      show qi.length + 1 ≤ _
      have h900 : (900 : Nat) ≤ sizeLine := by decide
      have : ci.length + 1 = (corsOf lb).length := by rw [hci, List.length_append]; rfl
      have h2 : (corsOf lb).length = lb.length := by unfold corsOf; rw [List.length_map]
      omega
    have s19 := same_upd (o := .lst (qi.map V.ref ++ [V.ref Tn])) nN
    have s1119 := (s1114.trans s1418).trans s19
    have sM := (s14.trans s1418).trans s19
    have eN : (upd (upd (upd H16 Tn (.tup [V.ref ul, .ref w])) Ln (.lst [V.ref Tn])) N (.lst (qi.map V.ref ++ [V.ref Tn]))) N = some (.lst ((qi ++ [Tn]).map V.ref)) := by rw [upd_same, List.map_append]; rfl
    have hTN : TupsP (upd (upd (upd H16 Tn (.tup [V.ref ul, .ref w])) Ln (.lst [V.ref Tn])) N (.lst (qi.map V.ref ++ [V.ref Tn]))) (qi ++ [Tn]) (ci ++ [(cl.1, cl.2 + 1 / 3)]) 197 := by
      refine TupsP.snoc (i := ci.length) (fun i t d h1 h2 => ?_) hqcl (d := (cl.1, cl.2 + 1 / 3)) (by rw [List.getElem?_append_right (Nat.le_refl _), Nat.sub_self]; rfl) ((s18.trans s19) _ _ upd_same) ((pul.on s1119).mono (by decide)) (((pw.on s17).on s18).on s19)
      have hi : i < qi.length := (List.getElem?_eq_some_iff.mp h1).1
      rw [List.getElem?_append_left (by omega)] at h2
      obtain ⟨u, v, e, a, b⟩ := hqs i t d (by rw [hqi, List.getElem?_append_left hi]; exact h1) (by rw [hci, List.getElem?_append_left (by omega)]; exact h2)
      exact ⟨u, v, s1119 _ _ e, (a.on s1119).mono (by decide), (b.on s1119).mono (by decide)⟩
    have hcorC : Cor (ci ++ [cl]) := by rw [← hci]; exact hcorB
    have hcorN : Cor (ci ++ [(cl.1, cl.2 + 1 / 3)]) := cor_last hcorC (by grind)
    have hlN : (qi ++ [Tn]).length = (ci ++ [(cl.1, cl.2 + 1 / 3)]).length := by rw [List.length_append, List.length_append, hqcl]; rfl
    have hl6N : (ci ++ [(cl.1, cl.2 + 1 / 3)]).length ≤ 6 := by
      have : (ci ++ [cl]).length = (corsOf lb).length := by rw [hci]
      have h2 : (corsOf lb).length = lb.length := by unfold corsOf; rw [List.length_map]
      rw [List.length_append] at this ⊢
      exact Nat.le_trans (Nat.le_of_eq (this.trans h2)) hlen
    generalize upd (upd (upd H16 Tn (.tup [V.ref ul, .ref w])) Ln (.lst [V.ref Tn])) N (.lst (qi.map V.ref ++ [V.ref Tn])) = H20 at s1119 sM eN hTN ⊢
    have hL1 := hL1.on sM
    clear s14 s1114 s1418 s15 s16 s17 s18 s19 sM pw nw nzt nTn nLn nN nA2 s13 sm1 kp1 sk1 sl1 skl1
    -- another line
    dsimp only [List.set_cons_zero, List.set_cons_succ]
    refine ⟨_, rfl, N, rfl, ⟨_, SqL.of eN⟩, fun D2 nD2 => ?_⟩
    refine rcomp_run (i := 16) (j := 17) eN hlN hTN (by decide) (by rw [hlN]; omega) nD2 (fun _ _ => rfl) (fun _ _ => rfl) (fun _ _ => rfl) fun H21 us2 s21 eD2 hul2 hT2 => ?_
    have prC := prB.on s1119
    obtain ⟨tr2, br2, er2, lr2, vr2, zr2⟩ := id (prC.on s21)
    refine ⟨_, rfl, r, _, _, _, rfl, rfl, SqT.of er2, rfl, _, rfl, r, _, _, _, rfl, rfl, SqT.of er2, rfl, fun q2 dq2 nq2 ndq2 neq2 => ⟨q2, dq2, tr2, br2, rfl, upd_same, lr2.ne, Nat.lt_of_lt_of_le zr2.2 (Nat.pow_le_pow_right (by decide) (by omega)), fun K2 rk2 st2 => ⟨rfl, ?_⟩⟩⟩
    have sk2 := Same.made nq2 ndq2 st2
    have rq2 : RV T.f_Ratio K2 q2 s 194 := ⟨_, _, rk2, Low.of lr2.ne, by rw [vq_low lr2.ne, vr2], zr2.low lr2.ne⟩
    intro p2 d2 np2 nd2 ne2
    have sl2 : Same K2 (upd (upd K2 d2 (.own p2)) p2 (.ins T.f_Line d2 [])) := (same_upd nd2).trans (same_upd (by rw [upd_ne (Ne.symm ne2)]; exact np2))
    have hp2 : (upd (upd K2 d2 (.own p2)) p2 (.ins T.f_Line d2 [])) p2 = some (.ins T.f_Line d2 []) := upd_same
    generalize upd (upd K2 d2 (.own p2)) p2 (.ins T.f_Line d2 []) = L2 at sl2 hp2 ⊢
    have skl2 := sk2.trans sl2
    obtain ⟨uv2, hcv2⟩ := (hT2.on skl2).corV (K := K) (.inl (SqL.of (skl2 _ _ eD2))) hul2
    refine ⟨p2, d2, D2, .ref q2, uv2, _, s, 197, 194, rfl, hp2, hcv2, by omega, (rq2.on sl2).num, by decide, by decide, by decide, due_fine hcorN hs fun M2 hL2 kp2 => ⟨rfl, ?_⟩⟩
    have sm2 : Same K2 M2 := fun a o ha => kp2 a o (sl2 _ _ ha) (ne_of_none ha np2)
    have s2022 := (s21.trans sk2).trans sm2
    have s1122 := s1119.trans s2022
    have hL1 := hL1.on s2022
    have prD := prC.on s2022
    -- a steeper line
    dsimp only [List.set_cons_zero, List.set_cons_succ]
    refine ⟨_, rfl, LP, rfl, ⟨_, SqL.of (s1122 _ _ eLP)⟩, fun D3 nD3 => ?_⟩
    have hTP3 : TupsP M2 qs (corsOf lb) 194 := fun i t d h1 h2 => let ⟨u, v, e, a, b⟩ := hqs i t d h1 h2; ⟨u, v, s1122 _ _ e, a.on s1122, b.on s1122⟩
    refine rcomp_run (i := 16) (j := 17) (s1122 _ _ eLP) hql hTP3 (by decide) (by rw [hql]; unfold corsOf; rw [List.length_map]; omega) nD3 (fun _ _ => rfl) (fun _ _ => rfl) (fun _ _ => rfl) fun H23 us3 s23 eD3 hul3 hT3 => ?_
    obtain ⟨tr3, br3, er3, lr3, vr3, zr3⟩ := id (prD.on s23)
    refine ⟨_, rfl, r, _, _, _, rfl, rfl, SqT.of er3, rfl, _, _, rfl, rfl, _, rfl, r, _, _, _, rfl, rfl, SqT.of er3, rfl, fun q3 dq3 nq3 ndq3 neq3 => ⟨q3, dq3, tr3 + 1, br3, rfl, upd_same, lr3.ne, Nat.lt_of_lt_of_le zr3.2 (Nat.pow_le_pow_right (by decide) (by omega)), fun K3 rk3 st3 => ⟨rfl, ?_⟩⟩⟩
    have sk3 := Same.made nq3 ndq3 st3
    have rq3 : RV T.f_Ratio K3 q3 (vq (tr3 + 1) br3) 195 := ⟨_, _, rk3, Low.of lr3.ne, vq_low lr3.ne, Sz.low ⟨up_sz zr3.1, (zr3.mono (show 194 ≤ 195 by decide)).2⟩ lr3.ne⟩
    have hup3 : s < vq (tr3 + 1) br3 := by
      have := vq_up (t := tr3) lr3.1
      rw [vr3] at this
      exact this
    have hs3 : 0 ≤ vq (tr3 + 1) br3 := by grind
    intro p3 d3 np3 nd3 ne3
    have sl3 : Same K3 (upd (upd K3 d3 (.own p3)) p3 (.ins T.f_Line d3 [])) := (same_upd nd3).trans (same_upd (by rw [upd_ne (Ne.symm ne3)]; exact np3))
    have hp3 : (upd (upd K3 d3 (.own p3)) p3 (.ins T.f_Line d3 [])) p3 = some (.ins T.f_Line d3 []) := upd_same
    generalize upd (upd K3 d3 (.own p3)) p3 (.ins T.f_Line d3 []) = L3 at sl3 hp3 ⊢
    have skl3 := sk3.trans sl3
    obtain ⟨uv3, hcv3⟩ := (hT3.on skl3).corV (K := K) (.inl (SqL.of (skl3 _ _ eD3))) hul3
    refine ⟨p3, d3, D3, .ref q3, uv3, _, (vq (tr3 + 1) br3), 194, 195, rfl, hp3, hcv3, by unfold corsOf; rw [List.length_map]; omega, (rq3.on sl3).num, by decide, by decide, by decide, due_fine hcorB hs3 fun M3 hL3 kp3 => ⟨rfl, ?_⟩⟩
    have sm3 : Same K3 M3 := fun a o ha => kp3 a o (sl3 _ _ ha) (ne_of_none ha np3)
    have s2324 := (s23.trans sk3).trans sm3
    have s1124 := s1122.trans s2324
    have hL1 := hL1.on s2324
    have hL2 := hL2.on s2324
    have hLB := hLB.on s1124
    have prE := prD.on s2324
    have elB := s1124 _ _ elB
    have eoB := s1124 _ _ eoB
    have hLPB := hLPB.on s1124
    have hrPB := hrPB.on s1124
    have hql2 := hql
    clear hqs hTP3 hT1 hT2 hT3 hTN eN s1119 s1122 s2022 s21 s23 s12 sk2 sk3 sl2 sl3 skl2 skl3 sm2 sm3 kp2 kp3 hcv1 hcv2 hcv3 eD1 eD2 eD3 rq1 rq2 rq3 prB prC prD
    have ne2 : lb ≠ bends (segs (ci ++ [(cl.1, cl.2 + 1 / 3)]) s) := by
      rw [← hagain, hci]
      exact near_ne (cs := ci) (x := cl.1) (t := cl.2) (t' := cl.2 + 1 / 3) (by rw [hci] at hcorB; exact hcorB.2.2) hcorN.2.2 (by grind)
    have ne3 : lb ≠ bends (segs (corsOf lb) (vq (tr3 + 1) br3)) := by
      have := steep_ne (s := s) (s' := vq (tr3 + 1) br3) hcorB.1 (by grind)
      rw [hagain] at this
      exact this
    dsimp only [List.set_cons_zero, List.set_cons_succ]
    obtain ⟨x0, _, _, _, ep0, _⟩ := id hLB
    obtain ⟨x1, _, _, _, ep1, _⟩ := id hL1
    obtain ⟨x2, _, _, _, ep2, _⟩ := id hL2
    obtain ⟨x3, _, _, _, ep3, _⟩ := id hL3
    refine ⟨_, rfl, _, rfl, p, x0, _, p1, x1, _, rfl, rfl, ep0, ep1, p, p1, lb, lb, _, _, rfl, hLB, hL1, ?_⟩
    rw [decide_eq_true rfl]
    refine ⟨_, rfl, _, rfl, iteF ?_⟩
    refine ⟨_, rfl, _, rfl, p, x0, _, p2, x2, _, rfl, rfl, ep0, ep2, p, p2, lb, _, _, _, rfl, hLB, hL2, ?_⟩
    rw [decide_eq_false ne2]
    refine ⟨_, rfl, iteF ?_⟩
    refine ⟨_, rfl, _, rfl, p2, x2, _, p, x0, _, rfl, rfl, ep2, ep0, p2, p, _, lb, _, _, rfl, hL2, hLB, ?_⟩
    rw [decide_eq_false (Ne.symm ne2)]
    refine ⟨_, rfl, iteF ?_⟩
    refine ⟨_, rfl, _, rfl, p, x0, _, p3, x3, _, rfl, rfl, ep0, ep3, p, p3, lb, _, _, _, rfl, hLB, hL3, ?_⟩
    rw [decide_eq_false ne3]
    refine ⟨_, rfl, iteF ?_⟩
    refine ⟨_, rfl, p, x0, _, 0, rfl, rfl, ep0, p, 0, rfl, ?_⟩
    refine ⟨_, rfl, iteF ?_⟩
    clear hL2 hL3 ep2 ep3
    -- bent elsewhere
    have hlc : (corsOf lb).length = lb.length := by unfold corsOf; rw [List.length_map]
    have eLP3 := s1124 _ _ eLP
    refine ⟨fun σ H' => σ = [some (.ref S), some (.ref st), some (.ref L), some (.ref r), x4, some (.ref D), some y, some (.ref E1), some (.ref l), some (.ref p), some (.ref LP), some (.ref p1), some (.ref N), some (.ref p2), some (.ref p3), none, none, none, none] ∧ Same M3 H', ?_, ?_⟩
    · refine ⟨_, rfl, LP, _, rfl, .inl (SqL.of eLP3), _, _, rfl, rfl, _, rfl, ?_⟩
      by_cases hmany : 1 < lb.length
      · rw [decide_eq_true (show (1 : Int) < (((qs.map V.ref).length : Nat) : Int) by rw [List.length_map, hql, hlc]; omega)]
        refine iteT ?_
        have g0 : lb[0]? = some (lb[0]'(by omega)) := List.getElem?_eq_getElem (by omega)
        have g1 : lb[1]? = some (lb[1]'(by omega)) := List.getElem?_eq_getElem (by omega)
        have c0 : (corsOf lb)[0]? = some ((lb[0]'(by omega)).x, (lb[0]'(by omega)).t) := by unfold corsOf; rw [List.getElem?_map, g0]; rfl
        have c1 : (corsOf lb)[1]? = some ((lb[1]'(by omega)).x, (lb[1]'(by omega)).t) := by unfold corsOf; rw [List.getElem?_map, g1]; rfl
        obtain ⟨qs', eL', hql', hqs'⟩ := id hLPB
        obtain rfl : qs = qs' := by
          rw [eLP3] at eL'
          injection eL' with e
          injection e with e
          exact List.map_inj_right (fun a b h => by injection h) |>.mp e
        have t0 : qs[0]? = some (qs[0]'(by omega)) := List.getElem?_eq_getElem (by omega)
        have t1 : qs[1]? = some (qs[1]'(by omega)) := List.getElem?_eq_getElem (by omega)
        obtain ⟨u0, v0, e0, pu0, pv0⟩ := hqs' 0 _ _ t0 c0
        obtain ⟨u1, v1, e1, pu1, pv1⟩ := hqs' 1 _ _ t1 c1
        refine ⟨_, rfl, LP, _, _, _, rfl, rfl, SqL.of eLP3, atI_nat (j := 0) (by rw [List.getElem?_map, t0]; rfl), _, _, _, _, rfl, rfl, SqT.of e0, rfl, ?_⟩
        refine ⟨_, rfl, LP, _, _, _, rfl, rfl, SqL.of eLP3, atI_nat (j := 1) (by rw [List.getElem?_map, t1]; rfl), _, _, _, _, rfl, rfl, SqT.of e1, rfl, ?_⟩
        refine ⟨_, _, pv0.dp, pv1.dp, sh_R _, sh_R _, _, rfl, ?_⟩
        rw [eqv_dR pv0.raw.1 pv1.raw.1]
        by_cases hab : (lb[0]'(by omega)).t = (lb[1]'(by omega)).t
        · rw [decide_eq_true hab]
          refine iteF ?_
          refine iteF ?_
          exact ⟨rfl, .refl _⟩
        · rw [decide_eq_false hab]
          refine iteT ?_
          refine ⟨_, rfl, _, rfl, _, rfl, p, LP, r, lb, 194, _, _, _, rfl, hLB, hLPB, by rw [hlast]; exact prE, hnice, hcan, by omega, by decide, g0, g1, hab, fun H7 s7 => ⟨_, rfl, ?_⟩⟩
          refine iteF ?_
          exact ⟨rfl, s7⟩
      · rw [decide_eq_false (show ¬ (1 : Int) < (((qs.map V.ref).length : Nat) : Int) by rw [List.length_map, hql, hlc]; omega)]
        refine iteF ?_
        refine iteF ?_
        exact ⟨rfl, .refl _⟩
    rintro σ H7 ⟨rfl, s7⟩
    -- the corners are tuples
    have hLB := hLB.on s7
    have hL1 := hL1.on s7
    have ep0 := s7 _ _ ep0
    have elB := s7 _ _ elB
    have eoB := s7 _ _ eoB
    have hLPB := hLPB.on s7
    have hrPB := hrPB.on s7
    clear s7 eLP3 prE s1124 s2324 ep1
    refine ⟨_, rfl, p, x0, _, rfl, ep0, p, lb, _, rfl, hLB, by omega, fun q8 H8 s8 cq8 => ?_⟩
    obtain ⟨ts8, e8, _⟩ := id cq8
    refine ⟨.ref q8, .ty "tuple", .type "tuple", .type "tuple", true, rfl, .ty _, .base (.tup e8), kit_ty (by decide +kernel), true, rfl, iteF ?_⟩
    refine ⟨_, rfl, p, x0, _, rfl, s8 _ _ ep0, p, lb, _, rfl, hLB.on s8, by omega, fun q9 H9 s9 cq9 => ?_⟩
    obtain ⟨ts9, e9, hts9, hat9⟩ := id cq9
    refine ⟨q9, rfl, ⟨_, SqT.of e9⟩, fun D9 nD9 => ?_⟩
    refine lc_tup (K := K) (a := q9) (xs := ts9.map V.ref) (fun i H' => H' D9 = some (.lst []) ∧ Same H9 H') ⟨upd_same, same_upd nD9⟩ (fun i H' _ ⟨_, sm⟩ => SqT.of (sm _ _ e9)) ?_ ?_
    · intro i x H' hi ⟨eD, sm⟩
      rw [List.getElem?_map] at hi
      cases ht : ts9[i]? with
      | none => rw [ht] at hi; cases hi
      | some t =>
        rw [ht] at hi
        obtain rfl := Option.some.inj hi
        have hil : i < lb.length := by rw [← hts9]; exact (List.getElem?_eq_some_iff.mp ht).1
        obtain ⟨u, v, et, _, _⟩ := hat9 i t _ ht (List.getElem?_eq_getElem hil)
        refine ⟨rfl, _, rfl, .ref t, .ty "tuple", .type "tuple", .type "tuple", true, rfl, .ty _, .base (.tup (sm _ _ et)), kit_ty (by decide +kernel), true, rfl, ?_⟩
        exact ⟨eD, sm⟩
    rintro H10 ⟨eD9, s10⟩
    refine ⟨Nat.zero_le _, fun Z nZ => ?_⟩
    have s11 := same_upd (o := .lst []) nZ
    refine ⟨_, _, .lst (SqL.of (s11 _ _ eD9)) .nil, .lst (SqL.of upd_same) .nil, by decide +kernel, by decide +kernel, _, rfl, ?_⟩
    rw [show PyData.eqv (.list []) (.list []) = true from by decide +kernel]
    refine iteF ?_
    have s711 := ((s8.trans s9).trans s10).trans s11
    have hLB := hLB.on s711
    have hL1 := hL1.on s711
    have elB := s711 _ _ elB
    have tB : Told (upd H10 Z (.lst [])) o (corsOf lb) s 194 := ⟨LP, rP, s711 _ _ eoB, hLPB.on s711, hrPB.on s711⟩
    generalize upd H10 Z (.lst []) = H12 at hLB hL1 elB tB ⊢
    refine ⟨_, rfl, p, lb, _, rfl, hLB, hnice.gd.ne, by omega, fun o5 L5 r5 H13 s13 n5 e5 c5 p5 => ?_⟩
    refine ⟨_, rfl, l, _, _, _, rfl, rfl, SqL.of (s13 _ _ elB), rfl, ?_⟩
    have tA : Told H13 o5 (corsOf lb) (lastr lb) _ := ⟨L5, r5, e5, c5, p5⟩
    rw [hlast] at tA
    refine ⟨_, _, tA.dp, (tB.on s13).dp, sh_T _ _, sh_T _ _, ?_⟩
    rw [eqv_T]
    refine ⟨_, rfl, iteT ?_⟩
    have hL1 := hL1.on s13
    have elB := s13 _ _ elB
    have tB := tB.on s13
    refine ⟨_, rfl, p1, lb, _, rfl, hL1, hnice.gd.ne, by omega, fun o6 L6 r6 H14 s14 n6 e6 c6 p6 => ?_⟩
    refine ⟨_, rfl, l, _, _, _, rfl, rfl, SqL.of (s14 _ _ elB), rfl, ?_⟩
    have tC : Told H14 o6 (corsOf lb) (lastr lb) _ := ⟨L6, r6, e6, c6, p6⟩
    rw [hlast] at tC
    refine ⟨_, _, tC.dp, (tB.on s14).dp, sh_T _ _, sh_T _ _, ?_⟩
    rw [eqv_T]
    exact k _
end

set_option maxHeartbeats 0 in
theorem all_mk {l : PySem.W.OpenLaw} {w : World} {K : PySem.W.Frag} {h : Heap} {mg : Str → Option Value} {f_BadCount f_OutOfRange f_Ratio f_Line f_ExtralinkError f_as_ratio f_check_corners f_rises_between f_start f_draw f_low f_plus f_times f_less f_value f_corners f_over f_minus f_steep f_plain f_told f_made f_due f_spoiled f_bent_right f_BadCount_init f_OutOfRange_init f_Ratio_init dT_Ratio_init f_Ratio_top p_Ratio_top f_Ratio_bottom p_Ratio_bottom f_Ratio_sign p_Ratio_sign f_Ratio_over f_Ratio_below f_Ratio_neg f_Ratio_add f_Ratio_sub f_Ratio_eq f_Line_init f_Line_corners p_Line_corners f_Line_slope p_Line_slope f_Line_eq f_Ratio_radd f_Ratio_rsub f_Ratio_mul f_Ratio_rmul fa f_law : Addr} {od_as_ratio an_as_ratio od_check_corners an_check_corners od_rises_between an_rises_between od_start an_start od_draw an_draw od_low an_low od_plus an_plus od_times an_times od_less an_less od_value an_value od_corners an_corners od_over an_over od_minus an_minus od_steep an_steep od_plain an_plain od_told an_told od_made an_made od_due an_due od_spoiled an_spoiled od_bent_right an_bent_right od_BadCount_init an_BadCount_init od_OutOfRange_init an_OutOfRange_init od_Ratio_init an_Ratio_init dd0_Ratio_init od_Ratio_top an_Ratio_top od_Ratio_bottom an_Ratio_bottom od_Ratio_sign an_Ratio_sign od_Ratio_over an_Ratio_over od_Ratio_below an_Ratio_below od_Ratio_neg an_Ratio_neg od_Ratio_add an_Ratio_add od_Ratio_sub an_Ratio_sub od_Ratio_eq an_Ratio_eq od_Line_init an_Line_init od_Line_corners an_Line_corners od_Line_slope an_Line_slope od_Line_eq an_Line_eq od_law an_law : Option Addr} {sl_as_ratio sl_check_corners sl_rises_between sl_start sl_draw sl_low sl_plus sl_times sl_less sl_value sl_corners sl_over sl_minus sl_steep sl_plain sl_told sl_made sl_due sl_spoiled sl_bent_right sl_BadCount_init sl_OutOfRange_init sl_Ratio_init ds_Ratio_init sl_Ratio_top sl_Ratio_bottom sl_Ratio_sign sl_Ratio_over sl_Ratio_below sl_Ratio_neg sl_Ratio_add sl_Ratio_sub sl_Ratio_eq sl_Line_init sl_Line_corners sl_Line_slope sl_Line_eq sl_law : Array (Option Value)} {oc_as_ratio kV_as_ratio dc_as_ratio pm_as_ratio cd_as_ratio ct_as_ratio oc_check_corners kV_check_corners dc_check_corners pm_check_corners cd_check_corners ct_check_corners oc_rises_between kV_rises_between dc_rises_between pm_rises_between cd_rises_between ct_rises_between oc_start kV_start dc_start pm_start cd_start ct_start oc_draw kV_draw dc_draw pm_draw cd_draw ct_draw oc_low kV_low dc_low pm_low cd_low ct_low oc_plus kV_plus dc_plus pm_plus cd_plus ct_plus oc_times kV_times dc_times pm_times cd_times ct_times oc_less kV_less dc_less pm_less cd_less ct_less oc_value kV_value dc_value pm_value cd_value ct_value oc_corners kV_corners dc_corners pm_corners cd_corners ct_corners oc_over kV_over dc_over pm_over cd_over ct_over oc_minus kV_minus dc_minus pm_minus cd_minus ct_minus oc_steep kV_steep dc_steep pm_steep cd_steep ct_steep oc_plain kV_plain dc_plain pm_plain cd_plain ct_plain oc_told kV_told dc_told pm_told cd_told ct_told oc_made kV_made dc_made pm_made cd_made ct_made oc_due kV_due dc_due pm_due cd_due ct_due oc_spoiled kV_spoiled dc_spoiled pm_spoiled cd_spoiled ct_spoiled oc_bent_right kV_bent_right dc_bent_right pm_bent_right cd_bent_right ct_bent_right oc_BadCount_init kV_BadCount_init dc_BadCount_init pm_BadCount_init cd_BadCount_init ct_BadCount_init oc_OutOfRange_init kV_OutOfRange_init dc_OutOfRange_init pm_OutOfRange_init cd_OutOfRange_init ct_OutOfRange_init oc_Ratio_init kV_Ratio_init dc_Ratio_init pm_Ratio_init cd_Ratio_init ct_Ratio_init dc0_Ratio_init oc_Ratio_top kV_Ratio_top dc_Ratio_top pm_Ratio_top cd_Ratio_top ct_Ratio_top oc_Ratio_bottom kV_Ratio_bottom dc_Ratio_bottom pm_Ratio_bottom cd_Ratio_bottom ct_Ratio_bottom oc_Ratio_sign kV_Ratio_sign dc_Ratio_sign pm_Ratio_sign cd_Ratio_sign ct_Ratio_sign oc_Ratio_over kV_Ratio_over dc_Ratio_over pm_Ratio_over cd_Ratio_over ct_Ratio_over oc_Ratio_below kV_Ratio_below dc_Ratio_below pm_Ratio_below cd_Ratio_below ct_Ratio_below oc_Ratio_neg kV_Ratio_neg dc_Ratio_neg pm_Ratio_neg cd_Ratio_neg ct_Ratio_neg oc_Ratio_add kV_Ratio_add dc_Ratio_add pm_Ratio_add cd_Ratio_add ct_Ratio_add oc_Ratio_sub kV_Ratio_sub dc_Ratio_sub pm_Ratio_sub cd_Ratio_sub ct_Ratio_sub oc_Ratio_eq kV_Ratio_eq dc_Ratio_eq pm_Ratio_eq cd_Ratio_eq ct_Ratio_eq oc_Line_init kV_Line_init dc_Line_init pm_Line_init cd_Line_init ct_Line_init oc_Line_corners kV_Line_corners dc_Line_corners pm_Line_corners cd_Line_corners ct_Line_corners oc_Line_slope kV_Line_slope dc_Line_slope pm_Line_slope cd_Line_slope ct_Line_slope oc_Line_eq kV_Line_eq dc_Line_eq pm_Line_eq cd_Line_eq ct_Line_eq oc_law kV_law dc_law pm_law cd_law ct_law : Value} {dt_Ratio_init : Tok} {dn_Ratio_init : Nat} {rs_Ratio_top rs_Ratio_bottom rs_Ratio_sign rs_Line_corners rs_Line_slope : List Value} {fo_Ratio_add ro_Ratio_add fo_Ratio_sub ro_Ratio_sub fo_Ratio_mul ro_Ratio_mul : Option Value} {cdd_Ratio : ClassData} (X : K.In h) (G : h.Ns mainGlobals mg) (hfa : mg "law" = some (.ref fa))
    (a_BadCount : PySem.W.nsIn K mainGlobals "BadCount" = some (some (.ref f_BadCount)))
    (a_OutOfRange : PySem.W.nsIn K mainGlobals "OutOfRange" = some (some (.ref f_OutOfRange)))
    (a_Ratio : PySem.W.nsIn K mainGlobals "Ratio" = some (some (.ref f_Ratio)))
    (pg_Ratio : PySem.W.plainGet K f_Ratio Str.empty = true)
    (hd_Ratio : PySem.W.hasDictIn K f_Ratio = true)
    (po_Ratio : PySem.W.plainOver K f_Ratio = true)
    (sa_Ratio : PySem.W.findIn K (.ref f_Ratio) "__setattr__" = some (some (.builtin "object.__setattr__")))
    (mk_Ratio : PySem.W.makesIn K f_Ratio = true)
    (kc_Ratio : PySem.W.keepIn K (.ref f_Ratio) = true)
    (hc_Ratio : PySem.W.findIn K (.ref f_Ratio) "__class__" = some (some (.builtin "object.__class__")))
    (mo_Ratio : PySem.W.mroIn K f_Ratio (.type "object") = some true)
    (ic_Ratio : PySem.W.isClsIn K f_Ratio = true)
    (ty_Ratio : PySem.W.typeIn K (.ref f_Ratio) = some (.type "type"))
    (hn_class : PySem.W.specialIn K (.builtin "object.__class__") "__get__" = some (some (.builtin "getset_descriptor.__get__")))
    (ht_class : PySem.W.takesIn K (.builtin "object.__class__") = some true)
    (na_Ratio_top : PySem.W.findIn K (.ref f_Ratio) "_top" = some none)
    (na_Ratio_bottom : PySem.W.findIn K (.ref f_Ratio) "_bottom" = some none)
    (su_Ratio_int : PySem.W.subIn K (.type "int") (.ref f_Ratio) = some false)
    (a_Line : PySem.W.nsIn K mainGlobals "Line" = some (some (.ref f_Line)))
    (pg_Line : PySem.W.plainGet K f_Line Str.empty = true)
    (hd_Line : PySem.W.hasDictIn K f_Line = true)
    (po_Line : PySem.W.plainOver K f_Line = true)
    (sa_Line : PySem.W.findIn K (.ref f_Line) "__setattr__" = some (some (.builtin "object.__setattr__")))
    (mk_Line : PySem.W.makesIn K f_Line = true)
    (kc_Line : PySem.W.keepIn K (.ref f_Line) = true)
    (hc_Line : PySem.W.findIn K (.ref f_Line) "__class__" = some (some (.builtin "object.__class__")))
    (mo_Line : PySem.W.mroIn K f_Line (.type "object") = some true)
    (ic_Line : PySem.W.isClsIn K f_Line = true)
    (ty_Line : PySem.W.typeIn K (.ref f_Line) = some (.type "type"))
    (na_Line_loads : PySem.W.findIn K (.ref f_Line) "_loads" = some none)
    (na_Line_times : PySem.W.findIn K (.ref f_Line) "_times" = some none)
    (na_Line_rises : PySem.W.findIn K (.ref f_Line) "_rises" = some none)
    (su_Line_int : PySem.W.subIn K (.type "int") (.ref f_Line) = some false)
    (a_ExtralinkError : PySem.W.nsIn K mainGlobals "ExtralinkError" = some (some (.ref f_ExtralinkError)))
    (a_as_ratio : PySem.W.nsIn K mainGlobals "as_ratio" = some (some (.ref f_as_ratio)))
    (l_as_ratio : K.lookup f_as_ratio = some ⟨oc_as_ratio, od_as_ratio, .func (PySem.W.fnOf "as_ratio" "as_ratio" (defArgs s_as_ratio) (defBody s_as_ratio) (defScope s_as_ratio) .none kV_as_ratio dc_as_ratio pm_as_ratio an_as_ratio cd_as_ratio ct_as_ratio), sl_as_ratio⟩)
    (c_as_ratio : PySem.W.codeIn K cd_as_ratio "as_ratio" = true)
    (k_as_ratio : PySem.W.keepIn K (.ref f_as_ratio) = true)
    (a_check_corners : PySem.W.nsIn K mainGlobals "check_corners" = some (some (.ref f_check_corners)))
    (l_check_corners : K.lookup f_check_corners = some ⟨oc_check_corners, od_check_corners, .func (PySem.W.fnOf "check_corners" "check_corners" (defArgs s_check_corners) (defBody s_check_corners) (defScope s_check_corners) .none kV_check_corners dc_check_corners pm_check_corners an_check_corners cd_check_corners ct_check_corners), sl_check_corners⟩)
    (c_check_corners : PySem.W.codeIn K cd_check_corners "check_corners" = true)
    (k_check_corners : PySem.W.keepIn K (.ref f_check_corners) = true)
    (a_rises_between : PySem.W.nsIn K mainGlobals "rises_between" = some (some (.ref f_rises_between)))
    (l_rises_between : K.lookup f_rises_between = some ⟨oc_rises_between, od_rises_between, .func (PySem.W.fnOf "rises_between" "rises_between" (defArgs s_rises_between) (defBody s_rises_between) (defScope s_rises_between) .none kV_rises_between dc_rises_between pm_rises_between an_rises_between cd_rises_between ct_rises_between), sl_rises_between⟩)
    (c_rises_between : PySem.W.codeIn K cd_rises_between "rises_between" = true)
    (k_rises_between : PySem.W.keepIn K (.ref f_rises_between) = true)
    (a_start : PySem.W.nsIn K mainGlobals "_law_start" = some (some (.ref f_start)))
    (l_start : K.lookup f_start = some ⟨oc_start, od_start, .func (PySem.W.fnOf "_law_start" "_law_start" (defArgs s_start) (defBody s_start) (defScope s_start) .none kV_start dc_start pm_start an_start cd_start ct_start), sl_start⟩)
    (c_start : PySem.W.codeIn K cd_start "_law_start" = true)
    (k_start : PySem.W.keepIn K (.ref f_start) = true)
    (a_draw : PySem.W.nsIn K mainGlobals "_law_draw" = some (some (.ref f_draw)))
    (l_draw : K.lookup f_draw = some ⟨oc_draw, od_draw, .func (PySem.W.fnOf "_law_draw" "_law_draw" (defArgs s_draw) (defBody s_draw) (defScope s_draw) .none kV_draw dc_draw pm_draw an_draw cd_draw ct_draw), sl_draw⟩)
    (c_draw : PySem.W.codeIn K cd_draw "_law_draw" = true)
    (k_draw : PySem.W.keepIn K (.ref f_draw) = true)
    (a_low : PySem.W.nsIn K mainGlobals "_law_low" = some (some (.ref f_low)))
    (l_low : K.lookup f_low = some ⟨oc_low, od_low, .func (PySem.W.fnOf "_law_low" "_law_low" (defArgs s_low) (defBody s_low) (defScope s_low) .none kV_low dc_low pm_low an_low cd_low ct_low), sl_low⟩)
    (c_low : PySem.W.codeIn K cd_low "_law_low" = true)
    (k_low : PySem.W.keepIn K (.ref f_low) = true)
    (a_plus : PySem.W.nsIn K mainGlobals "_law_plus" = some (some (.ref f_plus)))
    (l_plus : K.lookup f_plus = some ⟨oc_plus, od_plus, .func (PySem.W.fnOf "_law_plus" "_law_plus" (defArgs s_plus) (defBody s_plus) (defScope s_plus) .none kV_plus dc_plus pm_plus an_plus cd_plus ct_plus), sl_plus⟩)
    (c_plus : PySem.W.codeIn K cd_plus "_law_plus" = true)
    (k_plus : PySem.W.keepIn K (.ref f_plus) = true)
    (a_times : PySem.W.nsIn K mainGlobals "_law_times" = some (some (.ref f_times)))
    (l_times : K.lookup f_times = some ⟨oc_times, od_times, .func (PySem.W.fnOf "_law_times" "_law_times" (defArgs s_times) (defBody s_times) (defScope s_times) .none kV_times dc_times pm_times an_times cd_times ct_times), sl_times⟩)
    (c_times : PySem.W.codeIn K cd_times "_law_times" = true)
    (k_times : PySem.W.keepIn K (.ref f_times) = true)
    (a_less : PySem.W.nsIn K mainGlobals "_law_less" = some (some (.ref f_less)))
    (l_less : K.lookup f_less = some ⟨oc_less, od_less, .func (PySem.W.fnOf "_law_less" "_law_less" (defArgs s_less) (defBody s_less) (defScope s_less) .none kV_less dc_less pm_less an_less cd_less ct_less), sl_less⟩)
    (c_less : PySem.W.codeIn K cd_less "_law_less" = true)
    (k_less : PySem.W.keepIn K (.ref f_less) = true)
    (a_value : PySem.W.nsIn K mainGlobals "_law_value" = some (some (.ref f_value)))
    (l_value : K.lookup f_value = some ⟨oc_value, od_value, .func (PySem.W.fnOf "_law_value" "_law_value" (defArgs s_value) (defBody s_value) (defScope s_value) .none kV_value dc_value pm_value an_value cd_value ct_value), sl_value⟩)
    (c_value : PySem.W.codeIn K cd_value "_law_value" = true)
    (k_value : PySem.W.keepIn K (.ref f_value) = true)
    (a_corners : PySem.W.nsIn K mainGlobals "_law_corners" = some (some (.ref f_corners)))
    (l_corners : K.lookup f_corners = some ⟨oc_corners, od_corners, .func (PySem.W.fnOf "_law_corners" "_law_corners" (defArgs s_corners) (defBody s_corners) (defScope s_corners) .none kV_corners dc_corners pm_corners an_corners cd_corners ct_corners), sl_corners⟩)
    (c_corners : PySem.W.codeIn K cd_corners "_law_corners" = true)
    (k_corners : PySem.W.keepIn K (.ref f_corners) = true)
    (a_over : PySem.W.nsIn K mainGlobals "_law_over" = some (some (.ref f_over)))
    (l_over : K.lookup f_over = some ⟨oc_over, od_over, .func (PySem.W.fnOf "_law_over" "_law_over" (defArgs s_over) (defBody s_over) (defScope s_over) .none kV_over dc_over pm_over an_over cd_over ct_over), sl_over⟩)
    (c_over : PySem.W.codeIn K cd_over "_law_over" = true)
    (k_over : PySem.W.keepIn K (.ref f_over) = true)
    (a_minus : PySem.W.nsIn K mainGlobals "_law_minus" = some (some (.ref f_minus)))
    (l_minus : K.lookup f_minus = some ⟨oc_minus, od_minus, .func (PySem.W.fnOf "_law_minus" "_law_minus" (defArgs s_minus) (defBody s_minus) (defScope s_minus) .none kV_minus dc_minus pm_minus an_minus cd_minus ct_minus), sl_minus⟩)
    (c_minus : PySem.W.codeIn K cd_minus "_law_minus" = true)
    (k_minus : PySem.W.keepIn K (.ref f_minus) = true)
    (a_steep : PySem.W.nsIn K mainGlobals "_law_steep" = some (some (.ref f_steep)))
    (l_steep : K.lookup f_steep = some ⟨oc_steep, od_steep, .func (PySem.W.fnOf "_law_steep" "_law_steep" (defArgs s_steep) (defBody s_steep) (defScope s_steep) .none kV_steep dc_steep pm_steep an_steep cd_steep ct_steep), sl_steep⟩)
    (c_steep : PySem.W.codeIn K cd_steep "_law_steep" = true)
    (k_steep : PySem.W.keepIn K (.ref f_steep) = true)
    (a_plain : PySem.W.nsIn K mainGlobals "_law_plain" = some (some (.ref f_plain)))
    (l_plain : K.lookup f_plain = some ⟨oc_plain, od_plain, .func (PySem.W.fnOf "_law_plain" "_law_plain" (defArgs s_plain) (defBody s_plain) (defScope s_plain) .none kV_plain dc_plain pm_plain an_plain cd_plain ct_plain), sl_plain⟩)
    (c_plain : PySem.W.codeIn K cd_plain "_law_plain" = true)
    (k_plain : PySem.W.keepIn K (.ref f_plain) = true)
    (a_told : PySem.W.nsIn K mainGlobals "_law_told" = some (some (.ref f_told)))
    (l_told : K.lookup f_told = some ⟨oc_told, od_told, .func (PySem.W.fnOf "_law_told" "_law_told" (defArgs s_told) (defBody s_told) (defScope s_told) .none kV_told dc_told pm_told an_told cd_told ct_told), sl_told⟩)
    (c_told : PySem.W.codeIn K cd_told "_law_told" = true)
    (k_told : PySem.W.keepIn K (.ref f_told) = true)
    (a_made : PySem.W.nsIn K mainGlobals "_law_made" = some (some (.ref f_made)))
    (l_made : K.lookup f_made = some ⟨oc_made, od_made, .func (PySem.W.fnOf "_law_made" "_law_made" (defArgs s_made) (defBody s_made) (defScope s_made) .none kV_made dc_made pm_made an_made cd_made ct_made), sl_made⟩)
    (c_made : PySem.W.codeIn K cd_made "_law_made" = true)
    (k_made : PySem.W.keepIn K (.ref f_made) = true)
    (a_due : PySem.W.nsIn K mainGlobals "_law_due" = some (some (.ref f_due)))
    (l_due : K.lookup f_due = some ⟨oc_due, od_due, .func (PySem.W.fnOf "_law_due" "_law_due" (defArgs s_due) (defBody s_due) (defScope s_due) .none kV_due dc_due pm_due an_due cd_due ct_due), sl_due⟩)
    (c_due : PySem.W.codeIn K cd_due "_law_due" = true)
    (k_due : PySem.W.keepIn K (.ref f_due) = true)
    (a_spoiled : PySem.W.nsIn K mainGlobals "_law_spoiled" = some (some (.ref f_spoiled)))
    (l_spoiled : K.lookup f_spoiled = some ⟨oc_spoiled, od_spoiled, .func (PySem.W.fnOf "_law_spoiled" "_law_spoiled" (defArgs s_spoiled) (defBody s_spoiled) (defScope s_spoiled) .none kV_spoiled dc_spoiled pm_spoiled an_spoiled cd_spoiled ct_spoiled), sl_spoiled⟩)
    (c_spoiled : PySem.W.codeIn K cd_spoiled "_law_spoiled" = true)
    (k_spoiled : PySem.W.keepIn K (.ref f_spoiled) = true)
    (a_bent_right : PySem.W.nsIn K mainGlobals "_law_bent_right" = some (some (.ref f_bent_right)))
    (l_bent_right : K.lookup f_bent_right = some ⟨oc_bent_right, od_bent_right, .func (PySem.W.fnOf "_law_bent_right" "_law_bent_right" (defArgs s_bent_right) (defBody s_bent_right) (defScope s_bent_right) .none kV_bent_right dc_bent_right pm_bent_right an_bent_right cd_bent_right ct_bent_right), sl_bent_right⟩)
    (c_bent_right : PySem.W.codeIn K cd_bent_right "_law_bent_right" = true)
    (k_bent_right : PySem.W.keepIn K (.ref f_bent_right) = true)
    (a_BadCount_init : PySem.W.findIn K (.ref f_BadCount) "__init__" = some (some (.ref f_BadCount_init)))
    (i_BadCount_init : PySem.W.isFn K (.ref f_BadCount_init) = true)
    (l_BadCount_init : K.lookup f_BadCount_init = some ⟨oc_BadCount_init, od_BadCount_init, .func (PySem.W.fnOf "__init__" "BadCount.__init__" (defArgs s_BadCount_init) (defBody s_BadCount_init) (defScope s_BadCount_init) .none kV_BadCount_init dc_BadCount_init pm_BadCount_init an_BadCount_init cd_BadCount_init ct_BadCount_init), sl_BadCount_init⟩)
    (c_BadCount_init : PySem.W.codeIn K cd_BadCount_init "BadCount.__init__" = true)
    (k_BadCount_init : PySem.W.keepIn K (.ref f_BadCount_init) = true)
    (a_OutOfRange_init : PySem.W.findIn K (.ref f_OutOfRange) "__init__" = some (some (.ref f_OutOfRange_init)))
    (i_OutOfRange_init : PySem.W.isFn K (.ref f_OutOfRange_init) = true)
    (l_OutOfRange_init : K.lookup f_OutOfRange_init = some ⟨oc_OutOfRange_init, od_OutOfRange_init, .func (PySem.W.fnOf "__init__" "OutOfRange.__init__" (defArgs s_OutOfRange_init) (defBody s_OutOfRange_init) (defScope s_OutOfRange_init) .none kV_OutOfRange_init dc_OutOfRange_init pm_OutOfRange_init an_OutOfRange_init cd_OutOfRange_init ct_OutOfRange_init), sl_OutOfRange_init⟩)
    (c_OutOfRange_init : PySem.W.codeIn K cd_OutOfRange_init "OutOfRange.__init__" = true)
    (k_OutOfRange_init : PySem.W.keepIn K (.ref f_OutOfRange_init) = true)
    (a_Ratio_init : PySem.W.findIn K (.ref f_Ratio) "__init__" = some (some (.ref f_Ratio_init)))
    (i_Ratio_init : PySem.W.isFn K (.ref f_Ratio_init) = true)
    (l_Ratio_init : K.lookup f_Ratio_init = some ⟨oc_Ratio_init, od_Ratio_init, .func (PySem.W.fnOf "__init__" "Ratio.__init__" (defArgs s_Ratio_init) (defBody s_Ratio_init) (defScope s_Ratio_init) (.ref dT_Ratio_init) kV_Ratio_init dc_Ratio_init pm_Ratio_init an_Ratio_init cd_Ratio_init ct_Ratio_init), sl_Ratio_init⟩)
    (c_Ratio_init : PySem.W.codeIn K cd_Ratio_init "Ratio.__init__" = true)
    (k_Ratio_init : PySem.W.keepIn K (.ref f_Ratio_init) = true)
    (t_Ratio_init : K.lookup dT_Ratio_init = some ⟨dc0_Ratio_init, dd0_Ratio_init, .seq #[.int 1 dt_Ratio_init] dn_Ratio_init, ds_Ratio_init⟩)
    (a_Ratio_top : PySem.W.findIn K (.ref f_Ratio) "top" = some (some (.ref p_Ratio_top)))
    (pg_Ratio_top : PySem.W.specialIn K (.ref p_Ratio_top) "__get__" = some (some (.builtin "property.__get__")))
    (pt_Ratio_top : PySem.W.takesIn K (.ref p_Ratio_top) = some true)
    (pr_Ratio_top : PySem.W.recIn K p_Ratio_top "property" = some (.ref f_Ratio_top :: rs_Ratio_top))
    (l_Ratio_top : K.lookup f_Ratio_top = some ⟨oc_Ratio_top, od_Ratio_top, .func (PySem.W.fnOf "top" "Ratio.top" (defArgs s_Ratio_top) (defBody s_Ratio_top) (defScope s_Ratio_top) .none kV_Ratio_top dc_Ratio_top pm_Ratio_top an_Ratio_top cd_Ratio_top ct_Ratio_top), sl_Ratio_top⟩)
    (c_Ratio_top : PySem.W.codeIn K cd_Ratio_top "Ratio.top" = true)
    (k_Ratio_top : PySem.W.keepIn K (.ref f_Ratio_top) = true)
    (a_Ratio_bottom : PySem.W.findIn K (.ref f_Ratio) "bottom" = some (some (.ref p_Ratio_bottom)))
    (pg_Ratio_bottom : PySem.W.specialIn K (.ref p_Ratio_bottom) "__get__" = some (some (.builtin "property.__get__")))
    (pt_Ratio_bottom : PySem.W.takesIn K (.ref p_Ratio_bottom) = some true)
    (pr_Ratio_bottom : PySem.W.recIn K p_Ratio_bottom "property" = some (.ref f_Ratio_bottom :: rs_Ratio_bottom))
    (l_Ratio_bottom : K.lookup f_Ratio_bottom = some ⟨oc_Ratio_bottom, od_Ratio_bottom, .func (PySem.W.fnOf "bottom" "Ratio.bottom" (defArgs s_Ratio_bottom) (defBody s_Ratio_bottom) (defScope s_Ratio_bottom) .none kV_Ratio_bottom dc_Ratio_bottom pm_Ratio_bottom an_Ratio_bottom cd_Ratio_bottom ct_Ratio_bottom), sl_Ratio_bottom⟩)
    (c_Ratio_bottom : PySem.W.codeIn K cd_Ratio_bottom "Ratio.bottom" = true)
    (k_Ratio_bottom : PySem.W.keepIn K (.ref f_Ratio_bottom) = true)
    (a_Ratio_sign : PySem.W.findIn K (.ref f_Ratio) "sign" = some (some (.ref p_Ratio_sign)))
    (pg_Ratio_sign : PySem.W.specialIn K (.ref p_Ratio_sign) "__get__" = some (some (.builtin "property.__get__")))
    (pt_Ratio_sign : PySem.W.takesIn K (.ref p_Ratio_sign) = some true)
    (pr_Ratio_sign : PySem.W.recIn K p_Ratio_sign "property" = some (.ref f_Ratio_sign :: rs_Ratio_sign))
    (l_Ratio_sign : K.lookup f_Ratio_sign = some ⟨oc_Ratio_sign, od_Ratio_sign, .func (PySem.W.fnOf "sign" "Ratio.sign" (defArgs s_Ratio_sign) (defBody s_Ratio_sign) (defScope s_Ratio_sign) .none kV_Ratio_sign dc_Ratio_sign pm_Ratio_sign an_Ratio_sign cd_Ratio_sign ct_Ratio_sign), sl_Ratio_sign⟩)
    (c_Ratio_sign : PySem.W.codeIn K cd_Ratio_sign "Ratio.sign" = true)
    (k_Ratio_sign : PySem.W.keepIn K (.ref f_Ratio_sign) = true)
    (a_Ratio_over : PySem.W.findIn K (.ref f_Ratio) "over" = some (some (.ref f_Ratio_over)))
    (i_Ratio_over : PySem.W.isFn K (.ref f_Ratio_over) = true)
    (l_Ratio_over : K.lookup f_Ratio_over = some ⟨oc_Ratio_over, od_Ratio_over, .func (PySem.W.fnOf "over" "Ratio.over" (defArgs s_Ratio_over) (defBody s_Ratio_over) (defScope s_Ratio_over) .none kV_Ratio_over dc_Ratio_over pm_Ratio_over an_Ratio_over cd_Ratio_over ct_Ratio_over), sl_Ratio_over⟩)
    (c_Ratio_over : PySem.W.codeIn K cd_Ratio_over "Ratio.over" = true)
    (k_Ratio_over : PySem.W.keepIn K (.ref f_Ratio_over) = true)
    (a_Ratio_below : PySem.W.findIn K (.ref f_Ratio) "below" = some (some (.ref f_Ratio_below)))
    (i_Ratio_below : PySem.W.isFn K (.ref f_Ratio_below) = true)
    (l_Ratio_below : K.lookup f_Ratio_below = some ⟨oc_Ratio_below, od_Ratio_below, .func (PySem.W.fnOf "below" "Ratio.below" (defArgs s_Ratio_below) (defBody s_Ratio_below) (defScope s_Ratio_below) .none kV_Ratio_below dc_Ratio_below pm_Ratio_below an_Ratio_below cd_Ratio_below ct_Ratio_below), sl_Ratio_below⟩)
    (c_Ratio_below : PySem.W.codeIn K cd_Ratio_below "Ratio.below" = true)
    (k_Ratio_below : PySem.W.keepIn K (.ref f_Ratio_below) = true)
    (a_Ratio_neg : PySem.W.findIn K (.ref f_Ratio) "__neg__" = some (some (.ref f_Ratio_neg)))
    (i_Ratio_neg : PySem.W.isFn K (.ref f_Ratio_neg) = true)
    (l_Ratio_neg : K.lookup f_Ratio_neg = some ⟨oc_Ratio_neg, od_Ratio_neg, .func (PySem.W.fnOf "__neg__" "Ratio.__neg__" (defArgs s_Ratio_neg) (defBody s_Ratio_neg) (defScope s_Ratio_neg) .none kV_Ratio_neg dc_Ratio_neg pm_Ratio_neg an_Ratio_neg cd_Ratio_neg ct_Ratio_neg), sl_Ratio_neg⟩)
    (c_Ratio_neg : PySem.W.codeIn K cd_Ratio_neg "Ratio.__neg__" = true)
    (k_Ratio_neg : PySem.W.keepIn K (.ref f_Ratio_neg) = true)
    (a_Ratio_add : PySem.W.findIn K (.ref f_Ratio) "__add__" = some (some (.ref f_Ratio_add)))
    (i_Ratio_add : PySem.W.isFn K (.ref f_Ratio_add) = true)
    (l_Ratio_add : K.lookup f_Ratio_add = some ⟨oc_Ratio_add, od_Ratio_add, .func (PySem.W.fnOf "__add__" "Ratio.__add__" (defArgs s_Ratio_add) (defBody s_Ratio_add) (defScope s_Ratio_add) .none kV_Ratio_add dc_Ratio_add pm_Ratio_add an_Ratio_add cd_Ratio_add ct_Ratio_add), sl_Ratio_add⟩)
    (c_Ratio_add : PySem.W.codeIn K cd_Ratio_add "Ratio.__add__" = true)
    (k_Ratio_add : PySem.W.keepIn K (.ref f_Ratio_add) = true)
    (a_Ratio_sub : PySem.W.findIn K (.ref f_Ratio) "__sub__" = some (some (.ref f_Ratio_sub)))
    (i_Ratio_sub : PySem.W.isFn K (.ref f_Ratio_sub) = true)
    (l_Ratio_sub : K.lookup f_Ratio_sub = some ⟨oc_Ratio_sub, od_Ratio_sub, .func (PySem.W.fnOf "__sub__" "Ratio.__sub__" (defArgs s_Ratio_sub) (defBody s_Ratio_sub) (defScope s_Ratio_sub) .none kV_Ratio_sub dc_Ratio_sub pm_Ratio_sub an_Ratio_sub cd_Ratio_sub ct_Ratio_sub), sl_Ratio_sub⟩)
    (c_Ratio_sub : PySem.W.codeIn K cd_Ratio_sub "Ratio.__sub__" = true)
    (k_Ratio_sub : PySem.W.keepIn K (.ref f_Ratio_sub) = true)
    (a_Ratio_eq : PySem.W.findIn K (.ref f_Ratio) "__eq__" = some (some (.ref f_Ratio_eq)))
    (i_Ratio_eq : PySem.W.isFn K (.ref f_Ratio_eq) = true)
    (l_Ratio_eq : K.lookup f_Ratio_eq = some ⟨oc_Ratio_eq, od_Ratio_eq, .func (PySem.W.fnOf "__eq__" "Ratio.__eq__" (defArgs s_Ratio_eq) (defBody s_Ratio_eq) (defScope s_Ratio_eq) .none kV_Ratio_eq dc_Ratio_eq pm_Ratio_eq an_Ratio_eq cd_Ratio_eq ct_Ratio_eq), sl_Ratio_eq⟩)
    (c_Ratio_eq : PySem.W.codeIn K cd_Ratio_eq "Ratio.__eq__" = true)
    (k_Ratio_eq : PySem.W.keepIn K (.ref f_Ratio_eq) = true)
    (a_Line_init : PySem.W.findIn K (.ref f_Line) "__init__" = some (some (.ref f_Line_init)))
    (i_Line_init : PySem.W.isFn K (.ref f_Line_init) = true)
    (l_Line_init : K.lookup f_Line_init = some ⟨oc_Line_init, od_Line_init, .func (PySem.W.fnOf "__init__" "Line.__init__" (defArgs s_Line_init) (defBody s_Line_init) (defScope s_Line_init) .none kV_Line_init dc_Line_init pm_Line_init an_Line_init cd_Line_init ct_Line_init), sl_Line_init⟩)
    (c_Line_init : PySem.W.codeIn K cd_Line_init "Line.__init__" = true)
    (k_Line_init : PySem.W.keepIn K (.ref f_Line_init) = true)
    (a_Line_corners : PySem.W.findIn K (.ref f_Line) "corners" = some (some (.ref p_Line_corners)))
    (pg_Line_corners : PySem.W.specialIn K (.ref p_Line_corners) "__get__" = some (some (.builtin "property.__get__")))
    (pt_Line_corners : PySem.W.takesIn K (.ref p_Line_corners) = some true)
    (pr_Line_corners : PySem.W.recIn K p_Line_corners "property" = some (.ref f_Line_corners :: rs_Line_corners))
    (l_Line_corners : K.lookup f_Line_corners = some ⟨oc_Line_corners, od_Line_corners, .func (PySem.W.fnOf "corners" "Line.corners" (defArgs s_Line_corners) (defBody s_Line_corners) (defScope s_Line_corners) .none kV_Line_corners dc_Line_corners pm_Line_corners an_Line_corners cd_Line_corners ct_Line_corners), sl_Line_corners⟩)
    (c_Line_corners : PySem.W.codeIn K cd_Line_corners "Line.corners" = true)
    (k_Line_corners : PySem.W.keepIn K (.ref f_Line_corners) = true)
    (a_Line_slope : PySem.W.findIn K (.ref f_Line) "slope" = some (some (.ref p_Line_slope)))
    (pg_Line_slope : PySem.W.specialIn K (.ref p_Line_slope) "__get__" = some (some (.builtin "property.__get__")))
    (pt_Line_slope : PySem.W.takesIn K (.ref p_Line_slope) = some true)
    (pr_Line_slope : PySem.W.recIn K p_Line_slope "property" = some (.ref f_Line_slope :: rs_Line_slope))
    (l_Line_slope : K.lookup f_Line_slope = some ⟨oc_Line_slope, od_Line_slope, .func (PySem.W.fnOf "slope" "Line.slope" (defArgs s_Line_slope) (defBody s_Line_slope) (defScope s_Line_slope) .none kV_Line_slope dc_Line_slope pm_Line_slope an_Line_slope cd_Line_slope ct_Line_slope), sl_Line_slope⟩)
    (c_Line_slope : PySem.W.codeIn K cd_Line_slope "Line.slope" = true)
    (k_Line_slope : PySem.W.keepIn K (.ref f_Line_slope) = true)
    (a_Line_eq : PySem.W.findIn K (.ref f_Line) "__eq__" = some (some (.ref f_Line_eq)))
    (i_Line_eq : PySem.W.isFn K (.ref f_Line_eq) = true)
    (l_Line_eq : K.lookup f_Line_eq = some ⟨oc_Line_eq, od_Line_eq, .func (PySem.W.fnOf "__eq__" "Line.__eq__" (defArgs s_Line_eq) (defBody s_Line_eq) (defScope s_Line_eq) .none kV_Line_eq dc_Line_eq pm_Line_eq an_Line_eq cd_Line_eq ct_Line_eq), sl_Line_eq⟩)
    (c_Line_eq : PySem.W.codeIn K cd_Line_eq "Line.__eq__" = true)
    (k_Line_eq : PySem.W.keepIn K (.ref f_Line_eq) = true)
    (sf_Ratio : PySem.W.selfFirst K f_Ratio = true)
    (us_Ratio : PySem.W.subIn K (.ref f_Ratio) (.type "int") = some false)
    (a_Ratio_radd : PySem.W.findIn K (.ref f_Ratio) "__radd__" = some (some (.ref f_Ratio_radd)))
    (i_Ratio_radd : PySem.W.isFn K (.ref f_Ratio_radd) = true)
    (i1_Ratio_add : PySem.W.findIn K (.type "int") "__add__" = some fo_Ratio_add)
    (i2_Ratio_add : PySem.W.findIn K (.type "int") "__radd__" = some ro_Ratio_add)
    (a_Ratio_rsub : PySem.W.findIn K (.ref f_Ratio) "__rsub__" = some (some (.ref f_Ratio_rsub)))
    (i_Ratio_rsub : PySem.W.isFn K (.ref f_Ratio_rsub) = true)
    (i1_Ratio_sub : PySem.W.findIn K (.type "int") "__sub__" = some fo_Ratio_sub)
    (i2_Ratio_sub : PySem.W.findIn K (.type "int") "__rsub__" = some ro_Ratio_sub)
    (a_Ratio_mul : PySem.W.findIn K (.ref f_Ratio) "__mul__" = some (some (.ref f_Ratio_mul)))
    (i_Ratio_mul : PySem.W.isFn K (.ref f_Ratio_mul) = true)
    (a_Ratio_rmul : PySem.W.findIn K (.ref f_Ratio) "__rmul__" = some (some (.ref f_Ratio_rmul)))
    (i_Ratio_rmul : PySem.W.isFn K (.ref f_Ratio_rmul) = true)
    (i1_Ratio_mul : PySem.W.findIn K (.type "int") "__mul__" = some fo_Ratio_mul)
    (i2_Ratio_mul : PySem.W.findIn K (.type "int") "__rmul__" = some ro_Ratio_mul)
    (ot_Ratio_int : PySem.W.subIn K (.ref f_Ratio) (.type "int") = some false)
    (ot_Ratio_str : PySem.W.subIn K (.ref f_Ratio) (.type "str") = some false)
    (ot_Ratio_NoneType : PySem.W.subIn K (.ref f_Ratio) (.type "NoneType") = some false)
    (ot_Ratio_tuple : PySem.W.subIn K (.ref f_Ratio) (.type "tuple") = some false)
    (ot_Ratio_list : PySem.W.subIn K (.ref f_Ratio) (.type "list") = some false)
    (ne_Ratio : PySem.W.findIn K (.ref f_Ratio) "__ne__" = some (some (.builtin "object.__ne__")))
    (ob_Ratio : PySem.W.subIn K (.ref f_Ratio) (.type "object") = some true)
    (ot_Line_int : PySem.W.subIn K (.ref f_Line) (.type "int") = some false)
    (ot_Line_str : PySem.W.subIn K (.ref f_Line) (.type "str") = some false)
    (ot_Line_NoneType : PySem.W.subIn K (.ref f_Line) (.type "NoneType") = some false)
    (ot_Line_tuple : PySem.W.subIn K (.ref f_Line) (.type "tuple") = some false)
    (ot_Line_list : PySem.W.subIn K (.ref f_Line) (.type "list") = some false)
    (ne_Line : PySem.W.findIn K (.ref f_Line) "__ne__" = some (some (.builtin "object.__ne__")))
    (ob_Line : PySem.W.subIn K (.ref f_Line) (.type "object") = some true)
    (cc_Ratio : PySem.W.clsIn K f_Ratio = some cdd_Ratio)
    (mr_Ratio : cdd_Ratio.mro = [.ref f_Ratio, .type "object"])
    (no1_Ratio_add : PySem.W.findIn K (.ref f_Ratio) "__iadd__" = some none)
    (no2_Ratio_add : PySem.W.findIn K (.type "object") "__iadd__" = some none)
    (no1_Ratio_sub : PySem.W.findIn K (.ref f_Ratio) "__isub__" = some none)
    (no2_Ratio_sub : PySem.W.findIn K (.type "object") "__isub__" = some none)
    (no1_Ratio_mul : PySem.W.findIn K (.ref f_Ratio) "__imul__" = some none)
    (no2_Ratio_mul : PySem.W.findIn K (.type "object") "__imul__" = some none)
    (x_BadCount : ∃ nm q N bs bm sn sub ab col dd k0 k1 k2 k3 k5, K.lookup f_BadCount = some (excClassObj nm q f_BadCount N bs bm true sn sub ab col dd k0 k1 k2 k3 k5 "ValueError.__new__") ∧ PySem.HandSPX.refsVE bm = true)
    (xs_BadCount : PySem.W.findIn K (.ref f_BadCount) "__setattr__" = some (some (.builtin "object.__setattr__")))
    (xe_BadCount : PySem.W.subIn K (.ref f_BadCount) (.type "BaseException") = some true)
    (xt_BadCount : PySem.W.typeIn K (.ref f_BadCount) = some (.type "type"))
    (xk_BadCount : PySem.W.keepIn K (.ref f_BadCount) = true)
    (xg_BadCount : PySem.W.findIn K (.ref f_BadCount) "__getattribute__" = some (some (.builtin "BaseException.__getattribute__")))
    (xh_BadCount : PySem.W.findIn K (.ref f_BadCount) "__getattr__" = some none)
    (xd_BadCount : PySem.W.hasDictIn K f_BadCount = true)
    (xc_BadCount : PySem.W.findIn K (.ref f_BadCount) "__class__" = some (some (.builtin "object.__class__")))
    (xm_BadCount : PySem.W.mroIn K f_BadCount (.type "object") = some true)
    (xi_BadCount : PySem.W.isClsIn K f_BadCount = true)
    (xf_BadCount : PySem.W.typeIn K (.ref f_BadCount_init) = some (.type "function"))
    (no_BadCount_count : PySem.W.findIn K (.ref f_BadCount) "count" = some none)
    (x_OutOfRange : ∃ nm q N bs bm sn sub ab col dd k0 k1 k2 k3 k5, K.lookup f_OutOfRange = some (excClassObj nm q f_OutOfRange N bs bm true sn sub ab col dd k0 k1 k2 k3 k5 "ValueError.__new__") ∧ PySem.HandSPX.refsVE bm = true)
    (xs_OutOfRange : PySem.W.findIn K (.ref f_OutOfRange) "__setattr__" = some (some (.builtin "object.__setattr__")))
    (xe_OutOfRange : PySem.W.subIn K (.ref f_OutOfRange) (.type "BaseException") = some true)
    (xt_OutOfRange : PySem.W.typeIn K (.ref f_OutOfRange) = some (.type "type"))
    (xk_OutOfRange : PySem.W.keepIn K (.ref f_OutOfRange) = true)
    (xg_OutOfRange : PySem.W.findIn K (.ref f_OutOfRange) "__getattribute__" = some (some (.builtin "BaseException.__getattribute__")))
    (xh_OutOfRange : PySem.W.findIn K (.ref f_OutOfRange) "__getattr__" = some none)
    (xd_OutOfRange : PySem.W.hasDictIn K f_OutOfRange = true)
    (xc_OutOfRange : PySem.W.findIn K (.ref f_OutOfRange) "__class__" = some (some (.builtin "object.__class__")))
    (xm_OutOfRange : PySem.W.mroIn K f_OutOfRange (.type "object") = some true)
    (xi_OutOfRange : PySem.W.isClsIn K f_OutOfRange = true)
    (xf_OutOfRange : PySem.W.typeIn K (.ref f_OutOfRange_init) = some (.type "function"))
    (no_OutOfRange_value : PySem.W.findIn K (.ref f_OutOfRange) "value" = some none)
    (es_BadCount_BadCount : PySem.W.subIn K (.ref f_BadCount) (.ref f_BadCount) = some true)
    (es_OutOfRange_BadCount : PySem.W.subIn K (.ref f_OutOfRange) (.ref f_BadCount) = some false)
    (nq_OutOfRange_BadCount : (decide (Value.ref f_OutOfRange = Value.ref f_BadCount)) = false)
    (es_OutOfRange_OutOfRange : PySem.W.subIn K (.ref f_OutOfRange) (.ref f_OutOfRange) = some true)
    (es_OutOfRange_ExtralinkError : PySem.W.subIn K (.ref f_OutOfRange) (.ref f_ExtralinkError) = some true)
    (xi_ExtralinkError : PySem.W.isClsIn K f_ExtralinkError = true)
    (xt_ExtralinkError : PySem.W.typeIn K (.ref f_ExtralinkError) = some (.type "type"))
    (nq_OutOfRange_ExtralinkError : (decide (Value.ref f_OutOfRange = Value.ref f_ExtralinkError)) = false)
    (g_gcd : PySem.W.nsIn K mainGlobals "gcd" = some (some (.builtin "math.gcd")))
    (z_abs : PySem.W.nsIn K mainGlobals "abs" = some none)
    (z_int : PySem.W.nsIn K mainGlobals "int" = some none)
    (z_isinstance : PySem.W.nsIn K mainGlobals "isinstance" = some none)
    (z_len : PySem.W.nsIn K mainGlobals "len" = some none)
    (z_list : PySem.W.nsIn K mainGlobals "list" = some none)
    (z_max : PySem.W.nsIn K mainGlobals "max" = some none)
    (z_range : PySem.W.nsIn K mainGlobals "range" = some none)
    (z_tuple : PySem.W.nsIn K mainGlobals "tuple" = some none)
    (z_zip : PySem.W.nsIn K mainGlobals "zip" = some none)
    (a_law : PySem.W.nsIn K mainGlobals "law" = some (some (.ref f_law)))
    (l_law : K.lookup f_law = some ⟨oc_law, od_law, .func (PySem.W.fnOf "law" "law" (defArgs s_law) (defBody s_law) (defScope s_law) .none kV_law dc_law pm_law an_law cd_law ct_law), sl_law⟩)
    (c_law : PySem.W.codeIn K cd_law "law" = true)
    (k_law : PySem.W.keepIn K (.ref f_law) = true)
    : ∃ fd : FuncData, (∀ (s : Shared) (v : Value), BindsTo s fd ⟨[v], []⟩ [("_law_script", v)]) ∧ ∀ base : Heap, K.In base → base.Ns mainGlobals mg → FnOk l.prog w K mg base CX0 10 fa fd ["_law_script"] (spLaw K) := by
  have e := hfa.symm.trans (PySem.W.mg_of X G a_law)
  cases e
  obtain ⟨e1_Ratio_init, ev1_Ratio_init, eb1_Ratio_init⟩ := FunD.binds1 (K := K) (f := f_Ratio_init) (fd := PySem.W.fnOf "__init__" "Ratio.__init__" (defArgs s_Ratio_init) (defBody s_Ratio_init) (defScope s_Ratio_init) (.ref dT_Ratio_init) kV_Ratio_init dc_Ratio_init pm_Ratio_init an_Ratio_init cd_Ratio_init ct_Ratio_init) (dvs := [V.int 1]) (kws := []) (ps := ["self", "top", "bottom"]) ⟨⟨_, _, _, _, _, _, _, _, _, _, rfl, l_Ratio_init, c_Ratio_init, .inr ⟨by simp, _, _, [.int 1 dt_Ratio_init], _, rfl, t_Ratio_init, rfl, .cons ⟨_, rfl⟩ .nil⟩, .inl rfl⟩, k_Ratio_init⟩ 2 0 (by simp) rfl fun _ _ _ _ _ _ _ us its hl hi => match us, hl, its, hi with | [_, _], _, [_], _ => ⟨_, rfl, rfl⟩
  obtain ⟨e2_Ratio_init, ev2_Ratio_init, eb2_Ratio_init⟩ := FunD.binds1 (K := K) (f := f_Ratio_init) (fd := PySem.W.fnOf "__init__" "Ratio.__init__" (defArgs s_Ratio_init) (defBody s_Ratio_init) (defScope s_Ratio_init) (.ref dT_Ratio_init) kV_Ratio_init dc_Ratio_init pm_Ratio_init an_Ratio_init cd_Ratio_init ct_Ratio_init) (dvs := [V.int 1]) (kws := []) (ps := ["self", "top", "bottom"]) ⟨⟨_, _, _, _, _, _, _, _, _, _, rfl, l_Ratio_init, c_Ratio_init, .inr ⟨by simp, _, _, [.int 1 dt_Ratio_init], _, rfl, t_Ratio_init, rfl, .cons ⟨_, rfl⟩ .nil⟩, .inl rfl⟩, k_Ratio_init⟩ 3 1 (by simp) rfl fun _ _ _ _ _ _ _ us its hl hi => match us, hl, its, hi with | [_, _, _], _, [_], _ => ⟨_, rfl, rfl⟩
  have T : Txt K mg := {
    f_BadCount := f_BadCount,
    m_BadCount := PySem.W.mg_of X G a_BadCount,
    f_OutOfRange := f_OutOfRange,
    m_OutOfRange := PySem.W.mg_of X G a_OutOfRange,
    f_Ratio := f_Ratio,
    m_Ratio := PySem.W.mg_of X G a_Ratio,
    cl_Ratio := ⟨pg_Ratio, hd_Ratio, po_Ratio, sa_Ratio⟩,
    ic_Ratio := ⟨⟨pg_Ratio, hd_Ratio, po_Ratio, sa_Ratio⟩, hc_Ratio, hn_class, ht_class, mo_Ratio, kit_self⟩,
    na_Ratio_top := na_Ratio_top,
    na_Ratio_bottom := na_Ratio_bottom,
    sn_Ratio_int := su_Ratio_int,
    ki_Ratio_int := kit_not ic_Ratio ty_Ratio su_Ratio_int (fun z => nomatch z),
    f_Line := f_Line,
    m_Line := PySem.W.mg_of X G a_Line,
    cl_Line := ⟨pg_Line, hd_Line, po_Line, sa_Line⟩,
    ic_Line := ⟨⟨pg_Line, hd_Line, po_Line, sa_Line⟩, hc_Line, hn_class, ht_class, mo_Line, kit_self⟩,
    na_Line_loads := na_Line_loads,
    na_Line_times := na_Line_times,
    na_Line_rises := na_Line_rises,
    sn_Line_int := su_Line_int,
    ki_Line_int := kit_not ic_Line ty_Line su_Line_int (fun z => nomatch z),
    f_ExtralinkError := f_ExtralinkError,
    m_ExtralinkError := PySem.W.mg_of X G a_ExtralinkError,
    f_as_ratio := f_as_ratio,
    d_as_ratio := PySem.W.fnOf "as_ratio" "as_ratio" (defArgs s_as_ratio) (defBody s_as_ratio) (defScope s_as_ratio) .none kV_as_ratio dc_as_ratio pm_as_ratio an_as_ratio cd_as_ratio ct_as_ratio,
    F_as_ratio := fun_mk (st := s_as_ratio) l_as_ratio c_as_ratio k_as_ratio,
    b_as_ratio := (fun_mk (st := s_as_ratio) l_as_ratio c_as_ratio k_as_ratio).binds (ps := ["value"]) fun _ _ _ _ _ _ us hl => match us, hl with | [_], _ => rfl,
    m_as_ratio := PySem.W.mg_of X G a_as_ratio,
    f_check_corners := f_check_corners,
    d_check_corners := PySem.W.fnOf "check_corners" "check_corners" (defArgs s_check_corners) (defBody s_check_corners) (defScope s_check_corners) .none kV_check_corners dc_check_corners pm_check_corners an_check_corners cd_check_corners ct_check_corners,
    F_check_corners := fun_mk (st := s_check_corners) l_check_corners c_check_corners k_check_corners,
    b_check_corners := (fun_mk (st := s_check_corners) l_check_corners c_check_corners k_check_corners).binds (ps := ["corners"]) fun _ _ _ _ _ _ us hl => match us, hl with | [_], _ => rfl,
    m_check_corners := PySem.W.mg_of X G a_check_corners,
    f_rises_between := f_rises_between,
    d_rises_between := PySem.W.fnOf "rises_between" "rises_between" (defArgs s_rises_between) (defBody s_rises_between) (defScope s_rises_between) .none kV_rises_between dc_rises_between pm_rises_between an_rises_between cd_rises_between ct_rises_between,
    F_rises_between := fun_mk (st := s_rises_between) l_rises_between c_rises_between k_rises_between,
    b_rises_between := (fun_mk (st := s_rises_between) l_rises_between c_rises_between k_rises_between).binds (ps := ["loads", "times"]) fun _ _ _ _ _ _ us hl => match us, hl with | [_, _], _ => rfl,
    m_rises_between := PySem.W.mg_of X G a_rises_between,
    f_start := f_start,
    d_start := PySem.W.fnOf "_law_start" "_law_start" (defArgs s_start) (defBody s_start) (defScope s_start) .none kV_start dc_start pm_start an_start cd_start ct_start,
    F_start := fun_mk (st := s_start) l_start c_start k_start,
    b_start := (fun_mk (st := s_start) l_start c_start k_start).binds (ps := ["_law_script"]) fun _ _ _ _ _ _ us hl => match us, hl with | [_], _ => rfl,
    m_start := PySem.W.mg_of X G a_start,
    f_draw := f_draw,
    d_draw := PySem.W.fnOf "_law_draw" "_law_draw" (defArgs s_draw) (defBody s_draw) (defScope s_draw) .none kV_draw dc_draw pm_draw an_draw cd_draw ct_draw,
    F_draw := fun_mk (st := s_draw) l_draw c_draw k_draw,
    b_draw := (fun_mk (st := s_draw) l_draw c_draw k_draw).binds (ps := ["_law_state", "_law_size"]) fun _ _ _ _ _ _ us hl => match us, hl with | [_, _], _ => rfl,
    m_draw := PySem.W.mg_of X G a_draw,
    f_low := f_low,
    d_low := PySem.W.fnOf "_law_low" "_law_low" (defArgs s_low) (defBody s_low) (defScope s_low) .none kV_low dc_low pm_low an_low cd_low ct_low,
    F_low := fun_mk (st := s_low) l_low c_low k_low,
    b_low := (fun_mk (st := s_low) l_low c_low k_low).binds (ps := ["_law_up", "_law_down"]) fun _ _ _ _ _ _ us hl => match us, hl with | [_, _], _ => rfl,
    m_low := PySem.W.mg_of X G a_low,
    f_plus := f_plus,
    d_plus := PySem.W.fnOf "_law_plus" "_law_plus" (defArgs s_plus) (defBody s_plus) (defScope s_plus) .none kV_plus dc_plus pm_plus an_plus cd_plus ct_plus,
    F_plus := fun_mk (st := s_plus) l_plus c_plus k_plus,
    b_plus := (fun_mk (st := s_plus) l_plus c_plus k_plus).binds (ps := ["_law_one", "_law_two"]) fun _ _ _ _ _ _ us hl => match us, hl with | [_, _], _ => rfl,
    m_plus := PySem.W.mg_of X G a_plus,
    f_times := f_times,
    d_times := PySem.W.fnOf "_law_times" "_law_times" (defArgs s_times) (defBody s_times) (defScope s_times) .none kV_times dc_times pm_times an_times cd_times ct_times,
    F_times := fun_mk (st := s_times) l_times c_times k_times,
    b_times := (fun_mk (st := s_times) l_times c_times k_times).binds (ps := ["_law_one", "_law_two"]) fun _ _ _ _ _ _ us hl => match us, hl with | [_, _], _ => rfl,
    m_times := PySem.W.mg_of X G a_times,
    f_less := f_less,
    d_less := PySem.W.fnOf "_law_less" "_law_less" (defArgs s_less) (defBody s_less) (defScope s_less) .none kV_less dc_less pm_less an_less cd_less ct_less,
    F_less := fun_mk (st := s_less) l_less c_less k_less,
    b_less := (fun_mk (st := s_less) l_less c_less k_less).binds (ps := ["_law_one", "_law_two"]) fun _ _ _ _ _ _ us hl => match us, hl with | [_, _], _ => rfl,
    m_less := PySem.W.mg_of X G a_less,
    f_value := f_value,
    d_value := PySem.W.fnOf "_law_value" "_law_value" (defArgs s_value) (defBody s_value) (defScope s_value) .none kV_value dc_value pm_value an_value cd_value ct_value,
    F_value := fun_mk (st := s_value) l_value c_value k_value,
    b_value := (fun_mk (st := s_value) l_value c_value k_value).binds (ps := ["_law_state", "_law_pair"]) fun _ _ _ _ _ _ us hl => match us, hl with | [_, _], _ => rfl,
    m_value := PySem.W.mg_of X G a_value,
    f_corners := f_corners,
    d_corners := PySem.W.fnOf "_law_corners" "_law_corners" (defArgs s_corners) (defBody s_corners) (defScope s_corners) .none kV_corners dc_corners pm_corners an_corners cd_corners ct_corners,
    F_corners := fun_mk (st := s_corners) l_corners c_corners k_corners,
    b_corners := (fun_mk (st := s_corners) l_corners c_corners k_corners).binds (ps := ["_law_state"]) fun _ _ _ _ _ _ us hl => match us, hl with | [_], _ => rfl,
    m_corners := PySem.W.mg_of X G a_corners,
    f_over := f_over,
    d_over := PySem.W.fnOf "_law_over" "_law_over" (defArgs s_over) (defBody s_over) (defScope s_over) .none kV_over dc_over pm_over an_over cd_over ct_over,
    F_over := fun_mk (st := s_over) l_over c_over k_over,
    b_over := (fun_mk (st := s_over) l_over c_over k_over).binds (ps := ["_law_one", "_law_two"]) fun _ _ _ _ _ _ us hl => match us, hl with | [_, _], _ => rfl,
    m_over := PySem.W.mg_of X G a_over,
    f_minus := f_minus,
    d_minus := PySem.W.fnOf "_law_minus" "_law_minus" (defArgs s_minus) (defBody s_minus) (defScope s_minus) .none kV_minus dc_minus pm_minus an_minus cd_minus ct_minus,
    F_minus := fun_mk (st := s_minus) l_minus c_minus k_minus,
    b_minus := (fun_mk (st := s_minus) l_minus c_minus k_minus).binds (ps := ["_law_one", "_law_two"]) fun _ _ _ _ _ _ us hl => match us, hl with | [_, _], _ => rfl,
    m_minus := PySem.W.mg_of X G a_minus,
    f_steep := f_steep,
    d_steep := PySem.W.fnOf "_law_steep" "_law_steep" (defArgs s_steep) (defBody s_steep) (defScope s_steep) .none kV_steep dc_steep pm_steep an_steep cd_steep ct_steep,
    F_steep := fun_mk (st := s_steep) l_steep c_steep k_steep,
    b_steep := (fun_mk (st := s_steep) l_steep c_steep k_steep).binds (ps := ["_law_bends", "_law_rise", "_law_k"]) fun _ _ _ _ _ _ us hl => match us, hl with | [_, _, _], _ => rfl,
    m_steep := PySem.W.mg_of X G a_steep,
    f_plain := f_plain,
    d_plain := PySem.W.fnOf "_law_plain" "_law_plain" (defArgs s_plain) (defBody s_plain) (defScope s_plain) .none kV_plain dc_plain pm_plain an_plain cd_plain ct_plain,
    F_plain := fun_mk (st := s_plain) l_plain c_plain k_plain,
    b_plain := (fun_mk (st := s_plain) l_plain c_plain k_plain).binds (ps := ["_law_bends", "_law_rise"]) fun _ _ _ _ _ _ us hl => match us, hl with | [_, _], _ => rfl,
    m_plain := PySem.W.mg_of X G a_plain,
    f_told := f_told,
    d_told := PySem.W.fnOf "_law_told" "_law_told" (defArgs s_told) (defBody s_told) (defScope s_told) .none kV_told dc_told pm_told an_told cd_told ct_told,
    F_told := fun_mk (st := s_told) l_told c_told k_told,
    b_told := (fun_mk (st := s_told) l_told c_told k_told).binds (ps := ["_law_line_here"]) fun _ _ _ _ _ _ us hl => match us, hl with | [_], _ => rfl,
    m_told := PySem.W.mg_of X G a_told,
    f_made := f_made,
    d_made := PySem.W.fnOf "_law_made" "_law_made" (defArgs s_made) (defBody s_made) (defScope s_made) .none kV_made dc_made pm_made an_made cd_made ct_made,
    F_made := fun_mk (st := s_made) l_made c_made k_made,
    b_made := (fun_mk (st := s_made) l_made c_made k_made).binds (ps := ["_law_pairs", "_law_rise"]) fun _ _ _ _ _ _ us hl => match us, hl with | [_, _], _ => rfl,
    m_made := PySem.W.mg_of X G a_made,
    f_due := f_due,
    d_due := PySem.W.fnOf "_law_due" "_law_due" (defArgs s_due) (defBody s_due) (defScope s_due) .none kV_due dc_due pm_due an_due cd_due ct_due,
    F_due := fun_mk (st := s_due) l_due c_due k_due,
    b_due := (fun_mk (st := s_due) l_due c_due k_due).binds (ps := ["_law_bends", "_law_rise", "_law_pairs", "_law_given"]) fun _ _ _ _ _ _ us hl => match us, hl with | [_, _, _, _], _ => rfl,
    m_due := PySem.W.mg_of X G a_due,
    f_spoiled := f_spoiled,
    d_spoiled := PySem.W.fnOf "_law_spoiled" "_law_spoiled" (defArgs s_spoiled) (defBody s_spoiled) (defScope s_spoiled) .none kV_spoiled dc_spoiled pm_spoiled an_spoiled cd_spoiled ct_spoiled,
    F_spoiled := fun_mk (st := s_spoiled) l_spoiled c_spoiled k_spoiled,
    b_spoiled := (fun_mk (st := s_spoiled) l_spoiled c_spoiled k_spoiled).binds (ps := ["_law_state", "_law_bends", "_law_rise"]) fun _ _ _ _ _ _ us hl => match us, hl with | [_, _, _], _ => rfl,
    m_spoiled := PySem.W.mg_of X G a_spoiled,
    f_bent_right := f_bent_right,
    d_bent_right := PySem.W.fnOf "_law_bent_right" "_law_bent_right" (defArgs s_bent_right) (defBody s_bent_right) (defScope s_bent_right) .none kV_bent_right dc_bent_right pm_bent_right an_bent_right cd_bent_right ct_bent_right,
    F_bent_right := fun_mk (st := s_bent_right) l_bent_right c_bent_right k_bent_right,
    b_bent_right := (fun_mk (st := s_bent_right) l_bent_right c_bent_right k_bent_right).binds (ps := ["_law_line_here", "_law_plain_here", "_law_rise"]) fun _ _ _ _ _ _ us hl => match us, hl with | [_, _, _], _ => rfl,
    m_bent_right := PySem.W.mg_of X G a_bent_right,
    f_BadCount_init := f_BadCount_init,
    d_BadCount_init := PySem.W.fnOf "__init__" "BadCount.__init__" (defArgs s_BadCount_init) (defBody s_BadCount_init) (defScope s_BadCount_init) .none kV_BadCount_init dc_BadCount_init pm_BadCount_init an_BadCount_init cd_BadCount_init ct_BadCount_init,
    F_BadCount_init := fun_mk (st := s_BadCount_init) l_BadCount_init c_BadCount_init k_BadCount_init,
    b_BadCount_init := (fun_mk (st := s_BadCount_init) l_BadCount_init c_BadCount_init k_BadCount_init).binds (ps := ["self", "count"]) fun _ _ _ _ _ _ us hl => match us, hl with | [_, _], _ => rfl,
    a_BadCount_init := a_BadCount_init,
    i_BadCount_init := i_BadCount_init,
    f_OutOfRange_init := f_OutOfRange_init,
    d_OutOfRange_init := PySem.W.fnOf "__init__" "OutOfRange.__init__" (defArgs s_OutOfRange_init) (defBody s_OutOfRange_init) (defScope s_OutOfRange_init) .none kV_OutOfRange_init dc_OutOfRange_init pm_OutOfRange_init an_OutOfRange_init cd_OutOfRange_init ct_OutOfRange_init,
    F_OutOfRange_init := fun_mk (st := s_OutOfRange_init) l_OutOfRange_init c_OutOfRange_init k_OutOfRange_init,
    b_OutOfRange_init := (fun_mk (st := s_OutOfRange_init) l_OutOfRange_init c_OutOfRange_init k_OutOfRange_init).binds (ps := ["self", "value"]) fun _ _ _ _ _ _ us hl => match us, hl with | [_, _], _ => rfl,
    a_OutOfRange_init := a_OutOfRange_init,
    i_OutOfRange_init := i_OutOfRange_init,
    f_Ratio_init := f_Ratio_init,
    d_Ratio_init := PySem.W.fnOf "__init__" "Ratio.__init__" (defArgs s_Ratio_init) (defBody s_Ratio_init) (defScope s_Ratio_init) (.ref dT_Ratio_init) kV_Ratio_init dc_Ratio_init pm_Ratio_init an_Ratio_init cd_Ratio_init ct_Ratio_init,
    F_Ratio_init := ⟨⟨_, _, _, _, _, _, _, _, _, _, rfl, l_Ratio_init, c_Ratio_init, .inr ⟨by simp, _, _, [.int 1 dt_Ratio_init], _, rfl, t_Ratio_init, rfl, .cons ⟨_, rfl⟩ .nil⟩, .inl rfl⟩, k_Ratio_init⟩,
    a_Ratio_init := a_Ratio_init,
    i_Ratio_init := i_Ratio_init,
    mk_Ratio := ⟨mk_Ratio, a_Ratio_init, i_Ratio_init, kc_Ratio⟩,
    f_Ratio_top := f_Ratio_top,
    d_Ratio_top := PySem.W.fnOf "top" "Ratio.top" (defArgs s_Ratio_top) (defBody s_Ratio_top) (defScope s_Ratio_top) .none kV_Ratio_top dc_Ratio_top pm_Ratio_top an_Ratio_top cd_Ratio_top ct_Ratio_top,
    F_Ratio_top := fun_mk (st := s_Ratio_top) l_Ratio_top c_Ratio_top k_Ratio_top,
    b_Ratio_top := (fun_mk (st := s_Ratio_top) l_Ratio_top c_Ratio_top k_Ratio_top).binds (ps := ["self"]) fun _ _ _ _ _ _ us hl => match us, hl with | [_], _ => rfl,
    p0_Ratio_top := p_Ratio_top,
    p_Ratio_top := ⟨a_Ratio_top, pg_Ratio_top, pt_Ratio_top, ⟨_, pr_Ratio_top⟩⟩,
    f_Ratio_bottom := f_Ratio_bottom,
    d_Ratio_bottom := PySem.W.fnOf "bottom" "Ratio.bottom" (defArgs s_Ratio_bottom) (defBody s_Ratio_bottom) (defScope s_Ratio_bottom) .none kV_Ratio_bottom dc_Ratio_bottom pm_Ratio_bottom an_Ratio_bottom cd_Ratio_bottom ct_Ratio_bottom,
    F_Ratio_bottom := fun_mk (st := s_Ratio_bottom) l_Ratio_bottom c_Ratio_bottom k_Ratio_bottom,
    b_Ratio_bottom := (fun_mk (st := s_Ratio_bottom) l_Ratio_bottom c_Ratio_bottom k_Ratio_bottom).binds (ps := ["self"]) fun _ _ _ _ _ _ us hl => match us, hl with | [_], _ => rfl,
    p0_Ratio_bottom := p_Ratio_bottom,
    p_Ratio_bottom := ⟨a_Ratio_bottom, pg_Ratio_bottom, pt_Ratio_bottom, ⟨_, pr_Ratio_bottom⟩⟩,
    f_Ratio_sign := f_Ratio_sign,
    d_Ratio_sign := PySem.W.fnOf "sign" "Ratio.sign" (defArgs s_Ratio_sign) (defBody s_Ratio_sign) (defScope s_Ratio_sign) .none kV_Ratio_sign dc_Ratio_sign pm_Ratio_sign an_Ratio_sign cd_Ratio_sign ct_Ratio_sign,
    F_Ratio_sign := fun_mk (st := s_Ratio_sign) l_Ratio_sign c_Ratio_sign k_Ratio_sign,
    b_Ratio_sign := (fun_mk (st := s_Ratio_sign) l_Ratio_sign c_Ratio_sign k_Ratio_sign).binds (ps := ["self"]) fun _ _ _ _ _ _ us hl => match us, hl with | [_], _ => rfl,
    p0_Ratio_sign := p_Ratio_sign,
    p_Ratio_sign := ⟨a_Ratio_sign, pg_Ratio_sign, pt_Ratio_sign, ⟨_, pr_Ratio_sign⟩⟩,
    f_Ratio_over := f_Ratio_over,
    d_Ratio_over := PySem.W.fnOf "over" "Ratio.over" (defArgs s_Ratio_over) (defBody s_Ratio_over) (defScope s_Ratio_over) .none kV_Ratio_over dc_Ratio_over pm_Ratio_over an_Ratio_over cd_Ratio_over ct_Ratio_over,
    F_Ratio_over := fun_mk (st := s_Ratio_over) l_Ratio_over c_Ratio_over k_Ratio_over,
    b_Ratio_over := (fun_mk (st := s_Ratio_over) l_Ratio_over c_Ratio_over k_Ratio_over).binds (ps := ["self", "value"]) fun _ _ _ _ _ _ us hl => match us, hl with | [_, _], _ => rfl,
    a_Ratio_over := a_Ratio_over,
    i_Ratio_over := i_Ratio_over,
    f_Ratio_below := f_Ratio_below,
    d_Ratio_below := PySem.W.fnOf "below" "Ratio.below" (defArgs s_Ratio_below) (defBody s_Ratio_below) (defScope s_Ratio_below) .none kV_Ratio_below dc_Ratio_below pm_Ratio_below an_Ratio_below cd_Ratio_below ct_Ratio_below,
    F_Ratio_below := fun_mk (st := s_Ratio_below) l_Ratio_below c_Ratio_below k_Ratio_below,
    b_Ratio_below := (fun_mk (st := s_Ratio_below) l_Ratio_below c_Ratio_below k_Ratio_below).binds (ps := ["self", "value"]) fun _ _ _ _ _ _ us hl => match us, hl with | [_, _], _ => rfl,
    a_Ratio_below := a_Ratio_below,
    i_Ratio_below := i_Ratio_below,
    f_Ratio_neg := f_Ratio_neg,
    d_Ratio_neg := PySem.W.fnOf "__neg__" "Ratio.__neg__" (defArgs s_Ratio_neg) (defBody s_Ratio_neg) (defScope s_Ratio_neg) .none kV_Ratio_neg dc_Ratio_neg pm_Ratio_neg an_Ratio_neg cd_Ratio_neg ct_Ratio_neg,
    F_Ratio_neg := fun_mk (st := s_Ratio_neg) l_Ratio_neg c_Ratio_neg k_Ratio_neg,
    b_Ratio_neg := (fun_mk (st := s_Ratio_neg) l_Ratio_neg c_Ratio_neg k_Ratio_neg).binds (ps := ["self"]) fun _ _ _ _ _ _ us hl => match us, hl with | [_], _ => rfl,
    a_Ratio_neg := a_Ratio_neg,
    i_Ratio_neg := i_Ratio_neg,
    f_Ratio_add := f_Ratio_add,
    d_Ratio_add := PySem.W.fnOf "__add__" "Ratio.__add__" (defArgs s_Ratio_add) (defBody s_Ratio_add) (defScope s_Ratio_add) .none kV_Ratio_add dc_Ratio_add pm_Ratio_add an_Ratio_add cd_Ratio_add ct_Ratio_add,
    F_Ratio_add := fun_mk (st := s_Ratio_add) l_Ratio_add c_Ratio_add k_Ratio_add,
    b_Ratio_add := (fun_mk (st := s_Ratio_add) l_Ratio_add c_Ratio_add k_Ratio_add).binds (ps := ["self", "other"]) fun _ _ _ _ _ _ us hl => match us, hl with | [_, _], _ => rfl,
    a_Ratio_add := a_Ratio_add,
    i_Ratio_add := i_Ratio_add,
    f_Ratio_sub := f_Ratio_sub,
    d_Ratio_sub := PySem.W.fnOf "__sub__" "Ratio.__sub__" (defArgs s_Ratio_sub) (defBody s_Ratio_sub) (defScope s_Ratio_sub) .none kV_Ratio_sub dc_Ratio_sub pm_Ratio_sub an_Ratio_sub cd_Ratio_sub ct_Ratio_sub,
    F_Ratio_sub := fun_mk (st := s_Ratio_sub) l_Ratio_sub c_Ratio_sub k_Ratio_sub,
    b_Ratio_sub := (fun_mk (st := s_Ratio_sub) l_Ratio_sub c_Ratio_sub k_Ratio_sub).binds (ps := ["self", "other"]) fun _ _ _ _ _ _ us hl => match us, hl with | [_, _], _ => rfl,
    a_Ratio_sub := a_Ratio_sub,
    i_Ratio_sub := i_Ratio_sub,
    f_Ratio_eq := f_Ratio_eq,
    d_Ratio_eq := PySem.W.fnOf "__eq__" "Ratio.__eq__" (defArgs s_Ratio_eq) (defBody s_Ratio_eq) (defScope s_Ratio_eq) .none kV_Ratio_eq dc_Ratio_eq pm_Ratio_eq an_Ratio_eq cd_Ratio_eq ct_Ratio_eq,
    F_Ratio_eq := fun_mk (st := s_Ratio_eq) l_Ratio_eq c_Ratio_eq k_Ratio_eq,
    b_Ratio_eq := (fun_mk (st := s_Ratio_eq) l_Ratio_eq c_Ratio_eq k_Ratio_eq).binds (ps := ["self", "other"]) fun _ _ _ _ _ _ us hl => match us, hl with | [_, _], _ => rfl,
    a_Ratio_eq := a_Ratio_eq,
    i_Ratio_eq := i_Ratio_eq,
    f_Line_init := f_Line_init,
    d_Line_init := PySem.W.fnOf "__init__" "Line.__init__" (defArgs s_Line_init) (defBody s_Line_init) (defScope s_Line_init) .none kV_Line_init dc_Line_init pm_Line_init an_Line_init cd_Line_init ct_Line_init,
    F_Line_init := fun_mk (st := s_Line_init) l_Line_init c_Line_init k_Line_init,
    b_Line_init := (fun_mk (st := s_Line_init) l_Line_init c_Line_init k_Line_init).binds (ps := ["self", "corners", "slope"]) fun _ _ _ _ _ _ us hl => match us, hl with | [_, _, _], _ => rfl,
    a_Line_init := a_Line_init,
    i_Line_init := i_Line_init,
    mk_Line := ⟨mk_Line, a_Line_init, i_Line_init, kc_Line⟩,
    f_Line_corners := f_Line_corners,
    d_Line_corners := PySem.W.fnOf "corners" "Line.corners" (defArgs s_Line_corners) (defBody s_Line_corners) (defScope s_Line_corners) .none kV_Line_corners dc_Line_corners pm_Line_corners an_Line_corners cd_Line_corners ct_Line_corners,
    F_Line_corners := fun_mk (st := s_Line_corners) l_Line_corners c_Line_corners k_Line_corners,
    b_Line_corners := (fun_mk (st := s_Line_corners) l_Line_corners c_Line_corners k_Line_corners).binds (ps := ["self"]) fun _ _ _ _ _ _ us hl => match us, hl with | [_], _ => rfl,
    p0_Line_corners := p_Line_corners,
    p_Line_corners := ⟨a_Line_corners, pg_Line_corners, pt_Line_corners, ⟨_, pr_Line_corners⟩⟩,
    f_Line_slope := f_Line_slope,
    d_Line_slope := PySem.W.fnOf "slope" "Line.slope" (defArgs s_Line_slope) (defBody s_Line_slope) (defScope s_Line_slope) .none kV_Line_slope dc_Line_slope pm_Line_slope an_Line_slope cd_Line_slope ct_Line_slope,
    F_Line_slope := fun_mk (st := s_Line_slope) l_Line_slope c_Line_slope k_Line_slope,
    b_Line_slope := (fun_mk (st := s_Line_slope) l_Line_slope c_Line_slope k_Line_slope).binds (ps := ["self"]) fun _ _ _ _ _ _ us hl => match us, hl with | [_], _ => rfl,
    p0_Line_slope := p_Line_slope,
    p_Line_slope := ⟨a_Line_slope, pg_Line_slope, pt_Line_slope, ⟨_, pr_Line_slope⟩⟩,
    f_Line_eq := f_Line_eq,
    d_Line_eq := PySem.W.fnOf "__eq__" "Line.__eq__" (defArgs s_Line_eq) (defBody s_Line_eq) (defScope s_Line_eq) .none kV_Line_eq dc_Line_eq pm_Line_eq an_Line_eq cd_Line_eq ct_Line_eq,
    F_Line_eq := fun_mk (st := s_Line_eq) l_Line_eq c_Line_eq k_Line_eq,
    b_Line_eq := (fun_mk (st := s_Line_eq) l_Line_eq c_Line_eq k_Line_eq).binds (ps := ["self", "other"]) fun _ _ _ _ _ _ us hl => match us, hl with | [_, _], _ => rfl,
    a_Line_eq := a_Line_eq,
    i_Line_eq := i_Line_eq,
    me_Ratio_over := ⟨a_Ratio_over, i_Ratio_over, k_Ratio_over⟩,
    me_Ratio_below := ⟨a_Ratio_below, i_Ratio_below, k_Ratio_below⟩,
    f_Ratio_radd := f_Ratio_radd,
    op_Ratio_add := ⟨sf_Ratio, a_Ratio_add, i_Ratio_add, a_Ratio_radd, i_Ratio_radd, ⟨_, i1_Ratio_add⟩, ⟨_, i2_Ratio_add⟩, su_Ratio_int, us_Ratio⟩,
    f_Ratio_rsub := f_Ratio_rsub,
    op_Ratio_sub := ⟨sf_Ratio, a_Ratio_sub, i_Ratio_sub, a_Ratio_rsub, i_Ratio_rsub, ⟨_, i1_Ratio_sub⟩, ⟨_, i2_Ratio_sub⟩, su_Ratio_int, us_Ratio⟩,
    f_Ratio_mul := f_Ratio_mul,
    f_Ratio_rmul := f_Ratio_rmul,
    op_Ratio_mul := ⟨sf_Ratio, a_Ratio_mul, i_Ratio_mul, a_Ratio_rmul, i_Ratio_rmul, ⟨_, i1_Ratio_mul⟩, ⟨_, i2_Ratio_mul⟩, su_Ratio_int, us_Ratio⟩,
    oth_Ratio := ⟨a_Ratio_eq, i_Ratio_eq, ot_Ratio_int, ot_Ratio_str, ot_Ratio_NoneType, ot_Ratio_tuple, ot_Ratio_list⟩,
    none_Ratio := ⟨ne_Ratio, ob_Ratio, a_Ratio_eq, i_Ratio_eq⟩,
    oth_Line := ⟨a_Line_eq, i_Line_eq, ot_Line_int, ot_Line_str, ot_Line_NoneType, ot_Line_tuple, ot_Line_list⟩,
    none_Line := ⟨ne_Line, ob_Line, a_Line_eq, i_Line_eq⟩,
    kb_Line_init_slope_corners := ⟨fun _ us ws _ hl hw => match us, ws, hl, hw with | [_], [_, _], _, _ => .of_eq rfl, fun r1 r2 => r1.append (permL_rel _ r2)⟩,
    noi_Ratio_add := ⟨⟨_, cc_Ratio, mr_Ratio⟩, no1_Ratio_add, no2_Ratio_add⟩,
    noi_Ratio_sub := ⟨⟨_, cc_Ratio, mr_Ratio⟩, no1_Ratio_sub, no2_Ratio_sub⟩,
    noi_Ratio_mul := ⟨⟨_, cc_Ratio, mr_Ratio⟩, no1_Ratio_mul, no2_Ratio_mul⟩,
    e1_Ratio_init := e1_Ratio_init,
    v1_Ratio_init := ev1_Ratio_init,
    b1_Ratio_init := eb1_Ratio_init,
    e2_Ratio_init := e2_Ratio_init,
    v2_Ratio_init := ev2_Ratio_init,
    b2_Ratio_init := eb2_Ratio_init,
    ox_BadCount := ⟨x_BadCount, xs_BadCount, xe_BadCount, xt_BadCount, xk_BadCount⟩,
    ix_BadCount := a_BadCount_init,
    tx_BadCount := xf_BadCount,
    xf_BadCount := ⟨xg_BadCount, xh_BadCount, xe_BadCount, xd_BadCount⟩,
    ec_BadCount := ⟨xg_BadCount, xh_BadCount, xe_BadCount, xd_BadCount, xc_BadCount, hn_class, ht_class, xm_BadCount⟩,
    no_BadCount_count := no_BadCount_count,
    ox_OutOfRange := ⟨x_OutOfRange, xs_OutOfRange, xe_OutOfRange, xt_OutOfRange, xk_OutOfRange⟩,
    ix_OutOfRange := a_OutOfRange_init,
    tx_OutOfRange := xf_OutOfRange,
    xf_OutOfRange := ⟨xg_OutOfRange, xh_OutOfRange, xe_OutOfRange, xd_OutOfRange⟩,
    ec_OutOfRange := ⟨xg_OutOfRange, xh_OutOfRange, xe_OutOfRange, xd_OutOfRange, xc_OutOfRange, hn_class, ht_class, xm_OutOfRange⟩,
    no_OutOfRange_value := no_OutOfRange_value,
    es_BadCount_BadCount := es_BadCount_BadCount,
    xi_BadCount_BadCount := xi_BadCount,
    xt_BadCount_BadCount := xt_BadCount,
    es_OutOfRange_BadCount := es_OutOfRange_BadCount,
    neq_OutOfRange_BadCount := of_decide_eq_false nq_OutOfRange_BadCount,
    xi_OutOfRange_BadCount := xi_BadCount,
    xt_OutOfRange_BadCount := xt_BadCount,
    es_OutOfRange_OutOfRange := es_OutOfRange_OutOfRange,
    xi_OutOfRange_OutOfRange := xi_OutOfRange,
    xt_OutOfRange_OutOfRange := xt_OutOfRange,
    es_OutOfRange_ExtralinkError := es_OutOfRange_ExtralinkError,
    neq_OutOfRange_ExtralinkError := of_decide_eq_false nq_OutOfRange_ExtralinkError,
    xi_OutOfRange_ExtralinkError := xi_ExtralinkError,
    xt_OutOfRange_ExtralinkError := xt_ExtralinkError,
    g_gcd := PySem.W.mg_of X G g_gcd,
    n_abs := PySem.W.mg_none_of X G z_abs,
    n_int := PySem.W.mg_none_of X G z_int,
    n_isinstance := PySem.W.mg_none_of X G z_isinstance,
    n_len := PySem.W.mg_none_of X G z_len,
    n_list := PySem.W.mg_none_of X G z_list,
    n_max := PySem.W.mg_none_of X G z_max,
    n_range := PySem.W.mg_none_of X G z_range,
    n_tuple := PySem.W.mg_none_of X G z_tuple,
    n_zip := PySem.W.mg_none_of X G z_zip }
  exact ⟨PySem.W.fnOf "law" "law" (defArgs s_law) (defBody s_law) (defScope s_law) .none kV_law dc_law pm_law an_law cd_law ct_law, fun s v => .of_eq rfl, fun base _ _ => ok_law T (fun_mk (st := s_law) l_law c_law k_law)⟩
end My
open PySem PySem.W PyProof.Rows
set_option maxRecDepth 100000 in
set_option maxHeartbeats 0 in
theorem PySem.Challenge.cw_extralink_k20_line_parts_holds : PySem.Challenge.rw_extralink_k20_line_parts.Holds := by
  w_on; o_law; k_head; (case hw => w_witness2)
  k_fill
  refine L2.walk_of (l := PySem.Challenge.rw_extralink_k20_line_parts) (n := 63) (k := 10) (x := "_law_script") (CX := fun _ => L2.CX0) (sp := fun w => My.spLaw _) rfl (by decide) rfl ⟨rfl, by decide, by decide⟩ (fun w h Y => PySem.W.kIn_of Y) ?F (fun _ _ a ns hl _ hS => ⟨a, ns, rfl, hS, hl, fun _ => rfl⟩) (fun _ _ _ _ _ h => h)
  case F =>
    intro w mg fa h KX G hmg
    refine' My.all_mk KX G hmg ?a_BadCount ?a_OutOfRange ?a_Ratio ?pg_Ratio ?hd_Ratio ?po_Ratio ?sa_Ratio ?mk_Ratio ?kc_Ratio ?hc_Ratio ?mo_Ratio ?ic_Ratio ?ty_Ratio ?hn_class ?ht_class ?na_Ratio_top ?na_Ratio_bottom ?su_Ratio_int ?a_Line ?pg_Line ?hd_Line ?po_Line ?sa_Line ?mk_Line ?kc_Line ?hc_Line ?mo_Line ?ic_Line ?ty_Line ?na_Line_loads ?na_Line_times ?na_Line_rises ?su_Line_int ?a_ExtralinkError ?a_as_ratio ?l_as_ratio ?c_as_ratio ?k_as_ratio ?a_check_corners ?l_check_corners ?c_check_corners ?k_check_corners ?a_rises_between ?l_rises_between ?c_rises_between ?k_rises_between ?a_start ?l_start ?c_start ?k_start ?a_draw ?l_draw ?c_draw ?k_draw ?a_low ?l_low ?c_low ?k_low ?a_plus ?l_plus ?c_plus ?k_plus ?a_times ?l_times ?c_times ?k_times ?a_less ?l_less ?c_less ?k_less ?a_value ?l_value ?c_value ?k_value ?a_corners ?l_corners ?c_corners ?k_corners ?a_over ?l_over ?c_over ?k_over ?a_minus ?l_minus ?c_minus ?k_minus ?a_steep ?l_steep ?c_steep ?k_steep ?a_plain ?l_plain ?c_plain ?k_plain ?a_told ?l_told ?c_told ?k_told ?a_made ?l_made ?c_made ?k_made ?a_due ?l_due ?c_due ?k_due ?a_spoiled ?l_spoiled ?c_spoiled ?k_spoiled ?a_bent_right ?l_bent_right ?c_bent_right ?k_bent_right ?a_BadCount_init ?i_BadCount_init ?l_BadCount_init ?c_BadCount_init ?k_BadCount_init ?a_OutOfRange_init ?i_OutOfRange_init ?l_OutOfRange_init ?c_OutOfRange_init ?k_OutOfRange_init ?a_Ratio_init ?i_Ratio_init ?l_Ratio_init ?c_Ratio_init ?k_Ratio_init ?t_Ratio_init ?a_Ratio_top ?pg_Ratio_top ?pt_Ratio_top ?pr_Ratio_top ?l_Ratio_top ?c_Ratio_top ?k_Ratio_top ?a_Ratio_bottom ?pg_Ratio_bottom ?pt_Ratio_bottom ?pr_Ratio_bottom ?l_Ratio_bottom ?c_Ratio_bottom ?k_Ratio_bottom ?a_Ratio_sign ?pg_Ratio_sign ?pt_Ratio_sign ?pr_Ratio_sign ?l_Ratio_sign ?c_Ratio_sign ?k_Ratio_sign ?a_Ratio_over ?i_Ratio_over ?l_Ratio_over ?c_Ratio_over ?k_Ratio_over ?a_Ratio_below ?i_Ratio_below ?l_Ratio_below ?c_Ratio_below ?k_Ratio_below ?a_Ratio_neg ?i_Ratio_neg ?l_Ratio_neg ?c_Ratio_neg ?k_Ratio_neg ?a_Ratio_add ?i_Ratio_add ?l_Ratio_add ?c_Ratio_add ?k_Ratio_add ?a_Ratio_sub ?i_Ratio_sub ?l_Ratio_sub ?c_Ratio_sub ?k_Ratio_sub ?a_Ratio_eq ?i_Ratio_eq ?l_Ratio_eq ?c_Ratio_eq ?k_Ratio_eq ?a_Line_init ?i_Line_init ?l_Line_init ?c_Line_init ?k_Line_init ?a_Line_corners ?pg_Line_corners ?pt_Line_corners ?pr_Line_corners ?l_Line_corners ?c_Line_corners ?k_Line_corners ?a_Line_slope ?pg_Line_slope ?pt_Line_slope ?pr_Line_slope ?l_Line_slope ?c_Line_slope ?k_Line_slope ?a_Line_eq ?i_Line_eq ?l_Line_eq ?c_Line_eq ?k_Line_eq ?sf_Ratio ?us_Ratio ?a_Ratio_radd ?i_Ratio_radd ?i1_Ratio_add ?i2_Ratio_add ?a_Ratio_rsub ?i_Ratio_rsub ?i1_Ratio_sub ?i2_Ratio_sub ?a_Ratio_mul ?i_Ratio_mul ?a_Ratio_rmul ?i_Ratio_rmul ?i1_Ratio_mul ?i2_Ratio_mul ?ot_Ratio_int ?ot_Ratio_str ?ot_Ratio_NoneType ?ot_Ratio_tuple ?ot_Ratio_list ?ne_Ratio ?ob_Ratio ?ot_Line_int ?ot_Line_str ?ot_Line_NoneType ?ot_Line_tuple ?ot_Line_list ?ne_Line ?ob_Line ?cc_Ratio ?mr_Ratio ?no1_Ratio_add ?no2_Ratio_add ?no1_Ratio_sub ?no2_Ratio_sub ?no1_Ratio_mul ?no2_Ratio_mul ?x_BadCount ?xs_BadCount ?xe_BadCount ?xt_BadCount ?xk_BadCount ?xg_BadCount ?xh_BadCount ?xd_BadCount ?xc_BadCount ?xm_BadCount ?xi_BadCount ?xf_BadCount ?no_BadCount_count ?x_OutOfRange ?xs_OutOfRange ?xe_OutOfRange ?xt_OutOfRange ?xk_OutOfRange ?xg_OutOfRange ?xh_OutOfRange ?xd_OutOfRange ?xc_OutOfRange ?xm_OutOfRange ?xi_OutOfRange ?xf_OutOfRange ?no_OutOfRange_value ?es_BadCount_BadCount ?es_OutOfRange_BadCount ?nq_OutOfRange_BadCount ?es_OutOfRange_OutOfRange ?es_OutOfRange_ExtralinkError ?xi_ExtralinkError ?xt_ExtralinkError ?nq_OutOfRange_ExtralinkError ?g_gcd ?z_abs ?z_int ?z_isinstance ?z_len ?z_list ?z_max ?z_range ?z_tuple ?z_zip ?a_law ?l_law ?c_law ?k_law
    (case a_BadCount => k_is)
    (case a_OutOfRange => k_is)
    (case a_Ratio => k_is)
    (case pg_Ratio => k_is)
    (case hd_Ratio => k_is)
    (case po_Ratio => k_is)
    (case sa_Ratio => k_is)
    (case mk_Ratio => k_is)
    (case kc_Ratio => k_is)
    (case hc_Ratio => k_is)
    (case mo_Ratio => k_is)
    (case ic_Ratio => k_is)
    (case ty_Ratio => k_is)
    (case hn_class => k_is)
    (case ht_class => k_is)
    (case na_Ratio_top => k_is)
    (case na_Ratio_bottom => k_is)
    (case su_Ratio_int => k_is)
    (case a_Line => k_is)
    (case pg_Line => k_is)
    (case hd_Line => k_is)
    (case po_Line => k_is)
    (case sa_Line => k_is)
    (case mk_Line => k_is)
    (case kc_Line => k_is)
    (case hc_Line => k_is)
    (case mo_Line => k_is)
    (case ic_Line => k_is)
    (case ty_Line => k_is)
    (case na_Line_loads => k_is)
    (case na_Line_times => k_is)
    (case na_Line_rises => k_is)
    (case su_Line_int => k_is)
    (case a_ExtralinkError => k_is)
    (case a_as_ratio => k_is)
    (case l_as_ratio => k_is)
    (case c_as_ratio => k_is)
    (case k_as_ratio => k_is)
    (case a_check_corners => k_is)
    (case l_check_corners => k_is)
    (case c_check_corners => k_is)
    (case k_check_corners => k_is)
    (case a_rises_between => k_is)
    (case l_rises_between => k_is)
    (case c_rises_between => k_is)
    (case k_rises_between => k_is)
    (case a_start => k_is)
    (case l_start => k_is)
    (case c_start => k_is)
    (case k_start => k_is)
    (case a_draw => k_is)
    (case l_draw => k_is)
    (case c_draw => k_is)
    (case k_draw => k_is)
    (case a_low => k_is)
    (case l_low => k_is)
    (case c_low => k_is)
    (case k_low => k_is)
    (case a_plus => k_is)
    (case l_plus => k_is)
    (case c_plus => k_is)
    (case k_plus => k_is)
    (case a_times => k_is)
    (case l_times => k_is)
    (case c_times => k_is)
    (case k_times => k_is)
    (case a_less => k_is)
    (case l_less => k_is)
    (case c_less => k_is)
    (case k_less => k_is)
    (case a_value => k_is)
    (case l_value => k_is)
    (case c_value => k_is)
    (case k_value => k_is)
    (case a_corners => k_is)
    (case l_corners => k_is)
    (case c_corners => k_is)
    (case k_corners => k_is)
    (case a_over => k_is)
    (case l_over => k_is)
    (case c_over => k_is)
    (case k_over => k_is)
    (case a_minus => k_is)
    (case l_minus => k_is)
    (case c_minus => k_is)
    (case k_minus => k_is)
    (case a_steep => k_is)
    (case l_steep => k_is)
    (case c_steep => k_is)
    (case k_steep => k_is)
    (case a_plain => k_is)
    (case l_plain => k_is)
    (case c_plain => k_is)
    (case k_plain => k_is)
    (case a_told => k_is)
    (case l_told => k_is)
    (case c_told => k_is)
    (case k_told => k_is)
    (case a_made => k_is)
    (case l_made => k_is)
    (case c_made => k_is)
    (case k_made => k_is)
    (case a_due => k_is)
    (case l_due => k_is)
    (case c_due => k_is)
    (case k_due => k_is)
    (case a_spoiled => k_is)
    (case l_spoiled => k_is)
    (case c_spoiled => k_is)
    (case k_spoiled => k_is)
    (case a_bent_right => k_is)
    (case l_bent_right => k_is)
    (case c_bent_right => k_is)
    (case k_bent_right => k_is)
    (case a_BadCount_init => k_is)
    (case i_BadCount_init => k_is)
    (case l_BadCount_init => k_is)
    (case c_BadCount_init => k_is)
    (case k_BadCount_init => k_is)
    (case a_OutOfRange_init => k_is)
    (case i_OutOfRange_init => k_is)
    (case l_OutOfRange_init => k_is)
    (case c_OutOfRange_init => k_is)
    (case k_OutOfRange_init => k_is)
    (case a_Ratio_init => k_is)
    (case i_Ratio_init => k_is)
    (case l_Ratio_init => k_is)
    (case c_Ratio_init => k_is)
    (case k_Ratio_init => k_is)
    (case t_Ratio_init => k_is)
    (case a_Ratio_top => k_is)
    (case pg_Ratio_top => k_is)
    (case pt_Ratio_top => k_is)
    (case pr_Ratio_top => k_is)
    (case l_Ratio_top => k_is)
    (case c_Ratio_top => k_is)
    (case k_Ratio_top => k_is)
    (case a_Ratio_bottom => k_is)
    (case pg_Ratio_bottom => k_is)
    (case pt_Ratio_bottom => k_is)
    (case pr_Ratio_bottom => k_is)
    (case l_Ratio_bottom => k_is)
    (case c_Ratio_bottom => k_is)
    (case k_Ratio_bottom => k_is)
    (case a_Ratio_sign => k_is)
    (case pg_Ratio_sign => k_is)
    (case pt_Ratio_sign => k_is)
    (case pr_Ratio_sign => k_is)
    (case l_Ratio_sign => k_is)
    (case c_Ratio_sign => k_is)
    (case k_Ratio_sign => k_is)
    (case a_Ratio_over => k_is)
    (case i_Ratio_over => k_is)
    (case l_Ratio_over => k_is)
    (case c_Ratio_over => k_is)
    (case k_Ratio_over => k_is)
    (case a_Ratio_below => k_is)
    (case i_Ratio_below => k_is)
    (case l_Ratio_below => k_is)
    (case c_Ratio_below => k_is)
    (case k_Ratio_below => k_is)
    (case a_Ratio_neg => k_is)
    (case i_Ratio_neg => k_is)
    (case l_Ratio_neg => k_is)
    (case c_Ratio_neg => k_is)
    (case k_Ratio_neg => k_is)
    (case a_Ratio_add => k_is)
    (case i_Ratio_add => k_is)
    (case l_Ratio_add => k_is)
    (case c_Ratio_add => k_is)
    (case k_Ratio_add => k_is)
    (case a_Ratio_sub => k_is)
    (case i_Ratio_sub => k_is)
    (case l_Ratio_sub => k_is)
    (case c_Ratio_sub => k_is)
    (case k_Ratio_sub => k_is)
    (case a_Ratio_eq => k_is)
    (case i_Ratio_eq => k_is)
    (case l_Ratio_eq => k_is)
    (case c_Ratio_eq => k_is)
    (case k_Ratio_eq => k_is)
    (case a_Line_init => k_is)
    (case i_Line_init => k_is)
    (case l_Line_init => k_is)
    (case c_Line_init => k_is)
    (case k_Line_init => k_is)
    (case a_Line_corners => k_is)
    (case pg_Line_corners => k_is)
    (case pt_Line_corners => k_is)
    (case pr_Line_corners => k_is)
    (case l_Line_corners => k_is)
    (case c_Line_corners => k_is)
    (case k_Line_corners => k_is)
    (case a_Line_slope => k_is)
    (case pg_Line_slope => k_is)
    (case pt_Line_slope => k_is)
    (case pr_Line_slope => k_is)
    (case l_Line_slope => k_is)
    (case c_Line_slope => k_is)
    (case k_Line_slope => k_is)
    (case a_Line_eq => k_is)
    (case i_Line_eq => k_is)
    (case l_Line_eq => k_is)
    (case c_Line_eq => k_is)
    (case k_Line_eq => k_is)
    (case sf_Ratio => k_is)
    (case us_Ratio => k_is)
    (case a_Ratio_radd => k_is)
    (case i_Ratio_radd => k_is)
    (case i1_Ratio_add => k_is)
    (case i2_Ratio_add => k_is)
    (case a_Ratio_rsub => k_is)
    (case i_Ratio_rsub => k_is)
    (case i1_Ratio_sub => k_is)
    (case i2_Ratio_sub => k_is)
    (case a_Ratio_mul => k_is)
    (case i_Ratio_mul => k_is)
    (case a_Ratio_rmul => k_is)
    (case i_Ratio_rmul => k_is)
    (case i1_Ratio_mul => k_is)
    (case i2_Ratio_mul => k_is)
    (case ot_Ratio_int => k_is)
    (case ot_Ratio_str => k_is)
    (case ot_Ratio_NoneType => k_is)
    (case ot_Ratio_tuple => k_is)
    (case ot_Ratio_list => k_is)
    (case ne_Ratio => k_is)
    (case ob_Ratio => k_is)
    (case ot_Line_int => k_is)
    (case ot_Line_str => k_is)
    (case ot_Line_NoneType => k_is)
    (case ot_Line_tuple => k_is)
    (case ot_Line_list => k_is)
    (case ne_Line => k_is)
    (case ob_Line => k_is)
    (case cc_Ratio => k_is)
    (case mr_Ratio => rfl)
    (case no1_Ratio_add => k_is)
    (case no2_Ratio_add => k_is)
    (case no1_Ratio_sub => k_is)
    (case no2_Ratio_sub => k_is)
    (case no1_Ratio_mul => k_is)
    (case no2_Ratio_mul => k_is)
    (case x_BadCount => exact ⟨_, _, _, _, _, _, _, _, _, _, _, _, _, _, _, by k_is, by decide +kernel⟩)
    (case xs_BadCount => k_is)
    (case xe_BadCount => k_is)
    (case xt_BadCount => k_is)
    (case xk_BadCount => k_is)
    (case xg_BadCount => k_is)
    (case xh_BadCount => k_is)
    (case xd_BadCount => k_is)
    (case xc_BadCount => k_is)
    (case xm_BadCount => k_is)
    (case xi_BadCount => k_is)
    (case xf_BadCount => k_is)
    (case no_BadCount_count => k_is)
    (case x_OutOfRange => exact ⟨_, _, _, _, _, _, _, _, _, _, _, _, _, _, _, by k_is, by decide +kernel⟩)
    (case xs_OutOfRange => k_is)
    (case xe_OutOfRange => k_is)
    (case xt_OutOfRange => k_is)
    (case xk_OutOfRange => k_is)
    (case xg_OutOfRange => k_is)
    (case xh_OutOfRange => k_is)
    (case xd_OutOfRange => k_is)
    (case xc_OutOfRange => k_is)
    (case xm_OutOfRange => k_is)
    (case xi_OutOfRange => k_is)
    (case xf_OutOfRange => k_is)
    (case no_OutOfRange_value => k_is)
    (case es_BadCount_BadCount => k_is)
    (case es_OutOfRange_BadCount => k_is)
    (case nq_OutOfRange_BadCount => decide)
    (case es_OutOfRange_OutOfRange => k_is)
    (case es_OutOfRange_ExtralinkError => k_is)
    (case xi_ExtralinkError => k_is)
    (case xt_ExtralinkError => k_is)
    (case nq_OutOfRange_ExtralinkError => decide)
    (case g_gcd => k_is)
    (case z_abs => k_is)
    (case z_int => k_is)
    (case z_isinstance => k_is)
    (case z_len => k_is)
    (case z_list => k_is)
    (case z_max => k_is)
    (case z_range => k_is)
    (case z_tuple => k_is)
    (case z_zip => k_is)
    (case a_law => k_is)
    (case l_law => k_is)
    (case c_law => k_is)
    (case k_law => k_is)
