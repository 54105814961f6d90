import PyProof.Rows.All
import Wide.All
import OpenK.AllK
import Wide.FinOn
import HandS.Base
import HandS.Call
import HandS.List
import HandS.Comp
import HandS.Ends
import HandS.Dict
import HandS.Iter
import HandS.Text
import HandS.Words
import HandS.WordsList
import HandS.WordsDict
import HandS.Wide
import HandS.IsInst
import HandS.Codes
import HandS.Property
import HandS.ClsMeth
import HandS.Defaults
import HandS.MakeKw
import HandS.CallLocal
import HandS.CallSlots
import HandS.Exc
import HandS.ExcInit
import HandS.ExcField
import HandS.ExcIs
import HandS.ExcOwn
import HandS.TryOnly
import HandS.WordsExc
import HandS.Gcd
import HandS.FStr
import HandS.StrMore
import HandS.WideBits
import HandS.Style
import HandS.OwnEq
import OpenK.KMeth
import KE.KOpsOwn
import HandS.TupAny
import PyProof.InstEq
import HandS.HotCalls
import HandS.ExcValue
import HandS.Star
import HandS.Zip
import HandS.Walk
import HandS.DictComp
import HandS.Conv
import KE.KDictZip
import HandS.Deep
import HandS.TryMany
import OpenK.KOps
import HandS.Small
import HandS.SetFor
import HandS.Strs
import KE.SortData
import KE.GoesEnumKw
import PyProof.NeKinds
import HandS.Finally
import KE.KEqDict
import KE.KEqNest
import PySem.Challenge.RW_extralink_k54_standings
set_option Elab.async false
set_option linter.all false
set_option maxRecDepth 100000
/-! My own rules beside the hand layer's: an item of a list read for a store in place, a text backwards, a call by keywords alone; what is said of lists of ints as data. -/
namespace My
open PySem PySem.Spec PyProof.Rows L2

/-! ### rules -/
section
variable {X : Cx}
def rGetL (K : PySem.W.Frag) : V → V → Hp → VK → Prop := fun x y H Q => ∃ p xs i v, x = .ref p ∧ y = .int i ∧ SqL K H p xs ∧ 0 ≤ i ∧ atI xs i = some v ∧ Q v H
theorem get_list : PGet X (rGetL X.K) := by
  intro pins s σ H o i ov iv Q I ro ri h
  obtain ⟨p, xs, k, z, rfl, rfl, hq, h0, he, q⟩ := h
  cases ro
  obtain ⟨t, rfl⟩ := ri
  obtain ⟨its, r, pl, hz⟩ := I.list hq
  obtain ⟨j, h1, h2, h3, h4, h5⟩ := atI_get he
  obtain ⟨w, ew, rw'⟩ := r.get h2
  have hl := r.length
  have hn := line63
  have hj : k.toNat = j := by
    rw [seqIndex_of h0 h5] at h1
    exact Option.some.inj h1
  exact wpAny_getItem_list pl.isList h0 (by omega) (by rw [hj]; simpa using ew) ⟨z, H, I, rw', q⟩

def revS (z : Str) : Str := ⟨z.cps.reverse⟩
def tRevS (te : TE) : TE := fun σ H Q => te σ H fun x H1 => ∃ z, x = .str z ∧ z.length ≤ sizeLine ∧ Q (.str (revS z)) H1
theorem range_back (n : Nat) : sliceRange ((n : Int) - 1) (-1) (-1) = (List.range n).map fun k => n - 1 - k := by
  unfold sliceRange
  have e : (if (-1 : Int) > 0 then (if ((n : Int) - 1) < -1 then (-1 - ((n : Int) - 1) + -1 - 1) / -1 else 0) else (if ((n : Int) - 1) > -1 then (((n : Int) - 1) - -1 - -1 - 1) / (- -1) else 0)).toNat = n := by
    rw [if_neg (by decide)]
    by_cases h : ((n : Int) - 1) > -1
    · rw [if_pos h, show (- -1 : Int) = 1 by decide, Int.ediv_one]
      omega
    · rw [if_neg h]
      omega
  show List.map (fun (k : Nat) => (((n : Int) - 1) + (-1) * (k : Int)).toNat) (List.range (Int.toNat (if (-1 : Int) > 0 then (if ((n : Int) - 1) < -1 then (-1 - ((n : Int) - 1) + -1 - 1) / -1 else 0) else (if ((n : Int) - 1) > -1 then (((n : Int) - 1) - -1 - -1 - 1) / (- -1) else 0)))) = _
  rw [e]
  refine List.map_congr_left fun k hk => ?_
  have := List.mem_range.mp hk
  omega
theorem filterMap_back (z : Array Nat) : (((List.range z.size).map fun k => z.size - 1 - k).filterMap (z[·]?)) = z.toList.reverse := by
  refine List.ext_getElem? fun i => ?_
  have e : (((List.range z.size).map fun k => z.size - 1 - k).filterMap (z[·]?)) = (List.range z.size).map fun k => z.getD (z.size - 1 - k) 0 := by
    rw [List.filterMap_map]
    have : ∀ l : List Nat, (∀ k ∈ l, k < z.size) → l.filterMap ((fun x => z[x]?) ∘ fun k => z.size - 1 - k) = l.map fun k => z.getD (z.size - 1 - k) 0 := by
      intro l
      induction l with
      | nil => intro _; rfl
      | cons a r ih =>
        intro h
        have ha := h a List.mem_cons_self
        have hb : z.size - 1 - a < z.size := by omega
        rw [List.filterMap_cons]
        have e1 : ((fun x => z[x]?) ∘ fun k => z.size - 1 - k) a = some (z.getD (z.size - 1 - a) 0) := by
          show z[z.size - 1 - a]? = _
          rw [Array.getElem?_eq_getElem hb]
          simp [Array.getD, hb]
        rw [e1, List.map_cons, ih fun k hk => h k (List.mem_cons_of_mem _ hk)]
    exact this _ fun k hk => List.mem_range.mp hk
  rw [e, List.getElem?_map]
  by_cases hi : i < z.size
  · rw [List.getElem?_range hi, List.getElem?_reverse (by simpa using hi)]
    have hb : z.size - 1 - i < z.size := by omega
    simp [Array.getD, hb]
  · rw [List.getElem?_eq_none (by simpa using hi), List.getElem?_eq_none (by simpa using hi)]
    rfl
theorem pe_revS {e : Expr} {te : TE} {k : Nat} {p1 p2 p3 pos : Pos} (he : PE X e te) : PE X (.Subscript e (.Slice none none (some (.UnaryOp .USub (.Constant (.int 1) k p1) p2)) p3) pos) (tRevS te) := by
  refine ⟨fun pins s σ H Q I h => ?_⟩
  refine Subscript_ (thn (he.run pins s σ H _ I h) fun v s1 ⟨x, H1, I1, r1, q1⟩ => ?_)
  obtain ⟨z, ex, hz, q⟩ := q1
  subst ex
  obtain ⟨tz, rfl⟩ := r1
  have hst : PO X (some (.UnaryOp .USub (.Constant (.int 1) k p1) p2)) (tPart (tUn (rU fun i => .int (-i)) (tC (.int 1)))) := po_some (pe_un un_neg pe_int)
  refine wpAny_Slice (thn (po_none.run pins s1 σ H1 (fun o H2 => o = none ∧ H2 = H1) I1 ⟨rfl, rfl⟩) fun vl s2 ⟨l, H2, I2, pl, el, e2⟩ => ?_)
  subst el e2
  refine thn (po_none.run pins s2 σ H2 (fun o H3 => o = none ∧ H3 = H2) I2 ⟨rfl, rfl⟩) fun vu s3 ⟨u, H3, I3, pu, eu, e3⟩ => ?_
  subst eu e3
  refine thn (hst.run pins s3 σ H3 (fun o H4 => o = some (-1) ∧ H4 = H3) I3 ⟨1, rfl, -1, rfl, rfl, rfl⟩) fun vs s4 ⟨o, H4, I4, ps, eo, e4⟩ => ?_
  subst eo e4
  have I5 : Inv X pins σ H4 { s4 with heap := s4.heap.push { cls := .type "slice", data := .fields #[vl, vu, vs] } } := I4.kept (t' := s4.toks) fun b ob q => Heap.get?_push_of_some _ q
  obtain ⟨l, rfl, el⟩ := IsPart.raw pl
  obtain ⟨u, rfl, eu⟩ := IsPart.raw pu
  obtain ⟨st, rfl, est⟩ := IsPart.raw ps
  cases l with
  | some _ => cases el
  | none =>
  cases u with
  | some _ => cases eu
  | none =>
  cases st with
  | none => cases est
  | some st =>
  obtain ⟨k1, tk⟩ := st
  have ek : k1 = -1 := Option.some.inj est
  subst ek
  show wpAny (model X.prog X.w) X.A (subscriptTail e (.Slice none none (some (.UnaryOp .USub (.Constant (.int 1) k p1) p2)) p3) (.str z tz) (.ref s4.heap.objs.size)) (EP X pins σ Q) X.xe { s4 with heap := s4.heap.push { cls := .type "slice", data := .fields #[.none, .none, .int (-1) tk] } }
  refine tail_any (ops := [.ref s4.heap.objs.size, .str z tz]) (typeIs_str _ _ _) F.slot_str_getitem.lookup ?_ (by with_unfolding_all rfl)
  refine wpAny_getItem_str_slice (l := none) (u := none) (st := some (-1, tk)) ⟨_, Heap.get?_push_size _ rfl, rfl, rfl⟩ rfl ?_
  have hp : slicePicked z none none (some (-1, tk)) = (List.range z.cps.size).map fun k => z.cps.size - 1 - k := by
    show Builtin.Str.strSliceIndices none none (-1) z.length = _
    unfold Builtin.Str.strSliceIndices
    exact range_back z.length
  have hr : (⟨((slicePicked z none none (some (-1, tk))).filterMap (z.cps[·]?)).toArray⟩ : Str) = revS z := by
    rw [hp, filterMap_back]
    unfold revS
    congr 1
    apply Array.ext'
    simp
  show Made.post (if ((-1 : Int) == 1 && (slicePicked z none none (some (-1, tk))).length == z.length) = true then Made.val (.str z tz) else Made.str ⟨((slicePicked z none none (some (-1, tk))).filterMap (z.cps[·]?)).toArray⟩) (EP X pins σ Q) _
  rw [if_neg (by rw [show ((-1 : Int) == 1) = false by decide, Bool.false_and]; exact Bool.false_ne_true), hr]
  refine ⟨?_, .str _, H4, I5.tok _, ⟨_, rfl⟩, q⟩
  show (revS z).cps.size ≤ sizeLine
  unfold revS
  rw [Array.size_reverse]
  exact hz

section
variable {CX : CXT} {k : Nat} {f : Addr} {fd : FuncData} {ps ks : List Str} {sp : Sp} {E : XK} {x : Str} {p pos : Pos} {kws : List Keyword} {tk : TA} {g : List Value → List Value → List Value} {gV : List V → List V → List V}
def tCallK0 (sp : Sp) (gV : List V → List V → List V) (E : XK) (tk : TA) : TE := fun σ H Q => tk σ H fun zs H2 => sp (gV [] zs) H2 Q E
/-- f(k = v, ..), nothing by place -/
theorem pe_callK0 (F : FnOk X.prog X.w X.K X.mg X.base CX k f fd ps sp) (hr : Room k X.A) (hg : Gl X x) (hm : X.mg x = some (.ref f)) (hk : PySem.W.keepIn X.K (.ref f) = true) (hb : KBinds X.K fd ps ks g gV) (hx : Passes CX X E)
    (hkw : PK X kws tk) (hall : (backToKw pos (keywordEach kws X.env)).all (·.1.isSome) = true := by rfl) (hks : (backToKw pos (keywordEach kws X.env)).filterMap (·.1) = ks := by rfl)
    (hdb : (x == ("__debug__" : Str)) = false := by decide)
    (hpl : ((backTo pos (starEach [] X.env)).any (·.1) || (backToKw pos (keywordEach kws X.env)).any (·.1.isNone)) = false := by rfl) :
    PE X (.Call (.Name x p) [] kws pos) (tCallK0 sp gV E tk) := by
  refine ⟨fun pins s σ H Q I h => ?_⟩
  refine wpAny_Call_Name_kw (ld_glob I hg hm ?_ hdb)
  refine PySem.W.callWith_KW0 (h₀ := X.base) I.ok.mod.kin hk hall (thn (hkw.run pos pins s σ H _ I h) fun ws s2 ⟨zs, H2, I2, rz, q2⟩ => ⟨I2.kIn, ?_⟩) hpl
  rw [hks]
  exact run_fnk (us := []) (vs := []) F hr hb hx I2 .nil rz q2
end
end

/-- all parameters by keyword, in their order -/
def kAll {α : Type} : List α → List α → List α
  | [], zs => zs
  | _ :: _, _ => []
theorem kbinds_all {K : PySem.W.Frag} {fd : FuncData} {ps ks : List Str} (h0 : 0 < ps.length) (h : ∀ (s : Shared) (ws : List Value), K.In s.heap → ws.length = ps.length → BindsTo s fd ⟨[], ks.zip ws⟩ (ps.zip ws)) : KBinds K fd ps ks kAll kAll where
  to := fun s us ws hK hl => by
    cases us with
    | nil => exact h s ws hK hl
    | cons u r =>
      have z : (0 : Nat) = ps.length := hl
      omega
  rel := fun {vs us zs ws} r rz => by
    cases r with
    | nil => exact rz
    | cons _ _ => exact .nil

/-! ### places -/
theorem at0 {α : Type} {x : α} {xs : List α} : atI (x :: xs) 0 = some x := atI_nat (j := 0) rfl
theorem ix_nat {n j : Nat} (h : j < n) : ixN n (j : Int) = some j := by
  unfold ixN
  rw [if_pos (by omega), if_pos (by omega), Int.toNat_natCast]
theorem ix0 {n : Nat} (h : 0 < n) : ixN n 0 = some 0 := ix_nat h

/-! ### walks over a text -/
theorem lc_str {x : Str} {g : TG} {tt : TT} {te : TE} {vs : List Nat} {σ : L2.St} {H1 : Hp} {D : Addr} {Qd : Hp → Prop} (Pv : Nat → Hp → Prop) (h0 : Pv 0 (upd H1 D (.lst [])))
    (hs : ∀ i c H, x.cps.toList[i]? = some c → Pv i H → g (.str ⟨#[c]⟩) (wipe σ vs) H fun σ2 H2 => wipe σ2 vs = wipe σ vs ∧ tt σ2 H2 fun b H3 =>
      if b = true then te σ2 H3 fun y H4 => ∃ acc, H4 D = some (.lst acc) ∧ acc.length < sizeLine ∧ Pv (i + 1) (upd H4 D (.lst (acc ++ [y]))) else Pv (i + 1) H3) (hd : ∀ H, Pv x.cps.size H → Qd H) :
    ∃ W : Nat → Nat → Hp → Prop, (∃ m, W 0 m (upd H1 D (.lst []))) ∧ ∀ i m H, W i m H →
      ((Its x).stop i H ∧ Qd H) ∨ ((Its x).go i H ∧ ∃ Nx : Hp → Prop, (∀ H', Nx H' → ∃ m', m' < m ∧ W (i + 1) m' H') ∧ ∀ y H', (Its x).yld i H y H' → g y (wipe σ vs) H' fun σ2 H2 => wipe σ2 vs = wipe σ vs ∧ tt σ2 H2 fun b H3 =>
        if b = true then te σ2 H3 fun y H4 => ∃ acc, H4 D = some (.lst acc) ∧ acc.length < sizeLine ∧ Nx (upd H4 D (.lst (acc ++ [y]))) else Nx H3) := by
  refine ⟨fun i m H => m = x.cps.size - i ∧ i ≤ x.cps.size ∧ Pv i H, ⟨_, rfl, Nat.zero_le _, h0⟩, ?_⟩
  rintro i m H ⟨rfl, hi, p⟩
  by_cases hlt : i < x.cps.size
  · refine .inr ⟨hlt, Pv (i + 1), fun H' p' => ⟨x.cps.size - (i + 1), by omega, rfl, hlt, p'⟩, fun y H' q => ?_⟩
    obtain ⟨e, c, hc, ey⟩ := q
    subst e
    subst ey
    exact hs i c _ (by rw [Array.getElem?_toList]; exact hc) p
  · have e : i = x.cps.size := by omega
    subst e
    exact .inl ⟨Nat.le_refl _, hd H p⟩

/-! ### lists of ints, of texts as data -/
theorem dp_ints {K : PySem.W.Frag} {H : Hp} : ∀ ns : List Int, DpAll K H (ns.map V.int) (ns.map PyData.int)
  | [] => .nil
  | n :: r => .cons (.int n) (dp_ints r)
theorem dp_strs {K : PySem.W.Frag} {H : Hp} : ∀ ns : List Str, DpAll K H (ns.map V.str) (ns.map PyData.str)
  | [] => .nil
  | n :: r => .cons (.str n) (dp_strs r)
theorem shaped_ints (ns : List Int) : SeqAt.shaped (.list (ns.map PyData.int)) = true := PySem.W.ke_shaped_ints ns
theorem eqv_nil : PyData.eqv (.list []) (.list []) = true := by simp [PyData.eqv, PyData.eqvAll]
theorem eqv_cons {a : PyData} {r : List PyData} : PyData.eqv (.list (a :: r)) (.list []) = false := by simp [PyData.eqv, PyData.eqvAll]
theorem same_upd {H : Hp} {p : Addr} {o : HO} (h : H p = none) : Same H (upd H p o) := fun b x e => by
  rw [upd_ne (ne_of_none e h)]
  exact e
/-- what G doesn't know may change -/
theorem same_mut {G H : Hp} {p : Addr} {o : HO} (e : Same G H) (h : G p = none) : Same G (upd H p o) := fun b x q => by
  rw [upd_ne (ne_of_none q h)]
  exact e b x q
end My

/-! My own rules about instances of own classes: texts of them, making them by names and in a try, operators; errors with a dict in an except suite. -/
namespace My
open PySem PySem.Spec PyProof.Rows L2

section
variable {X : Cx}
/-! ### floor division by any divisor that is not 0 -/
def CDivZ (_ j : Int) : Prop := j ≠ 0 ∧ j.natAbs.log2 < 9000
theorem op_fdivZ : OpR X (binaryOp .FloorDiv) (rI CDivZ fun i j => .int (i.fdiv j)) := opI fun _ _ _ _ _ _ _ hc q => floordiv_int hc.1 q (.inl (PyProof.noPylong_of_log2 hc.2))
theorem cdivZ {i j : Int} (h : j ≠ 0) (hb : j.natAbs < 2 ^ 8000) : CDivZ i j := ⟨h, Nat.lt_of_lt_of_le (PySem.Flt.log2_lt_of (by decide) hb) (by decide)⟩

/-! ### str(o), o of an own class with __str__ -/
def rStrO (C : Addr) (sp : Sp) : List V → Hp → VK → Prop := fun xs H Q => ∃ a dx fs, xs = [.ref a] ∧ H a = some (.ins C dx fs) ∧ sp [.ref a] H (fun v H' => ∃ z, v = .str z ∧ Q (.str z) H') E0
theorem call_strO {CX : CXT} {k : Nat} {C f : Addr} {fd : FuncData} {ps : List Str} {sp : Sp} (hs : PySem.W.findIn X.K (.ref C) "__str__" = some (some (.ref f))) (hf : PySem.W.isFn X.K (.ref f) = true)
    (F : FnOk X.prog X.w X.K X.mg X.base CX k f fd ps sp) (hr : Room (k + 2) X.A) (hb : Binds X.K fd ps []) (hx : Passes CX X.nox E0) : CallR X (.type "str") (rStrO C sp) := by
  intro pins s σ H xs us Q I r h
  obtain ⟨a, dx, fs, rfl, ea, q⟩ := h
  obtain ⟨u, rfl, ru⟩ := vals1 r
  obtain rfl : u = Value.ref a := ru
  obtain ⟨mA, O, _, _, _, _⟩ := ins_get I.hok ea
  obtain ⟨od, J, _⟩ := O.look
  have hl : ([Value.ref a] ++ []).length = ps.length := by rw [← F.len _ _ _ _ q]; rfl
  refine PySem.W.kso_call hr.in1.in1.units0 I.kIn J hs hf (wpAny_call ?_)
  refine codeAny_mono (F.run X.A.in1.in1 X.stack s H ⟨[.ref a], []⟩ [.ref a] [.ref a] _ E0 hr.in1.in1 I.env0.in1.in1 (hb _ [.ref a] I.kIn hl) (.cons rfl .nil) q) fun r s' hq => ?_
  cases r with
  | error er => exact False.elim (hx pins σ H s er s' (I.wish _) hq)
  | ok fl =>
    cases fl with
    | ret u =>
      obtain ⟨v, H', I3, rv, z, ez, q3⟩ := I.after hq
      subst ez
      obtain ⟨t, rfl⟩ := rv
      exact ⟨.str z, H', I3, ⟨t, rfl⟩, q3⟩
    | next => exact False.elim hq
    | brk => exact False.elim hq
    | cont => exact False.elim hq

/-! ### C(k = v, ..), nothing by place -/
section
variable {CX : CXT} {k : Nat} {f C : Addr} {fd : FuncData} {ps ks : List Str} {sp : Sp} {E : XK} {x : Str} {p pos : Pos} {e : Expr} {es : List Expr} {kws : List Keyword} {t tk : TA} {g : List Value → List Value → List Value} {gV : List V → List V → List V}
theorem pe_makeK0 (M : Mk X.K C f) (F : FnOk X.prog X.w X.K X.mg X.base CX k f fd ps sp) (hr : Room (k + 1) X.A) (hg : Gl X x) (hm : X.mg x = some (.ref C)) (hb : KBn X.K fd ps (0 + 1) ks g gV) (hx : Passes CX X E)
    (hkw : PK X kws tk) (hall : (backToKw pos (keywordEach kws X.env)).all (·.1.isSome) = true := by rfl) (hks : (backToKw pos (keywordEach kws X.env)).filterMap (·.1) = ks := by rfl)
    (hdb : (x == ("__debug__" : Str)) = false := by decide)
    (hpl : ((backTo pos (starEach [] X.env)).any (·.1) || (backToKw pos (keywordEach kws X.env)).any (·.1.isNone)) = false := by rfl) :
    PE X (.Call (.Name x p) [] kws pos) (tMakeN C 0 ks.length sp gV E tNil tk) := by
  refine ⟨fun pins s σ H Q I h => ?_⟩
  refine wpAny_Call_Name_kw (ld_glob I hg hm ?_ hdb)
  refine PySem.W.callWith_KW0 (h₀ := X.base) I.ok.mod.kin M.kp hall (thn (hkw.run pos pins s σ H _ I h) fun ws s2 ⟨zs, H2, I2, rz, l1, l2, q2⟩ => ⟨I2.kIn, ?_⟩) hpl
  rw [hks]
  exact run_makeN M F hr hb hx I2 .nil rz rfl l2 q2

/-! ### cls(e, ..), the class under a name of the frame -/
def tMakeL (C : Addr) (i : Nat) (sp : Sp) (dvs : List V) (E : XK) (t : TA) : TE := fun σ H Q => σ[i]? = some (some (.ref C)) ∧ tMake C sp dvs E t σ H Q
theorem pe_makeL {i : Nat} {dvs : List V} {ds : List Value} (M : Mk X.K C f) (F : FnOk X.prog X.w X.K X.mg X.base CX k f fd ps sp) (hr : Room (k + 1) X.A) (hN : X.N[i]? = some x) (hv : Vis X.env.scope x) (hb : Binds X.K fd ps ds) (hd : Vals dvs ds) (hx : Passes CX X E)
    (ha : PA X (e :: es) t) (hd1 : (x == ("__debug__" : Str)) = false := by decide) (hcd : (x == ("__classdict__" : Str)) = false := by decide)
    (he : starEach (e :: es) X.env = (false, eval e X.env) :: starEach es X.env := by rfl) (hpl : (backTo pos (starEach es X.env)).any (·.1) = false := by rfl) :
    PE X (.Call (.Name x p) (e :: es) [] pos) (tMakeL C i sp dvs E t) := by
  refine ⟨fun pins s σ H Q I h => ?_⟩
  obtain ⟨hs, h⟩ := h
  refine wpAny_Call_Name_kw (thn ((pe_var (pos := p) hN hv hd1 hcd).run pins s σ H (fun v H1 => v = .ref C ∧ H1 = H) I ⟨.ref C, hs, rfl, rfl⟩) fun u s1 ⟨v, H1, I1, r1, q1⟩ => ?_)
  obtain ⟨rfl, rfl⟩ := q1
  cases r1
  refine PySem.W.callWith_K (h₀ := X.base) I.ok.mod.kin M.kp (thn (ha.run pos pins s1 σ _ _ I1 h) fun us s2 ⟨vs, H2, I2, r, q⟩ => ⟨I2.kIn, ?_⟩) he hpl
  exact run_make M F hr hb hd hx I2 r q

/-! ### C(e, ..) where what is raised is wished for at the caller's slots -/
def tMakeS (C : Addr) (sp : Sp) (dvs : List V) (E : L2.St → XK) (t : TA) : TE := fun σ H Q => tMake C sp dvs (E σ) t σ H Q
theorem run_makeS {pins : List (Addr × Obj)} {σ : L2.St} {H : Hp} {s : Shared} {Q : VK} {us : List Value} {vs : List V} {dvs : List V} {ds : List Value} (M : Mk X.K C f) (F : FnOk X.prog X.w X.K X.mg X.base CX k f fd ps sp) (hr : Room (k + 1) X.A) (hb : Binds X.K fd ps ds) (hd : Vals dvs ds)
    (hx : PassesAt CX X σ E) (I : Inv X pins σ H s) (r : Vals vs us)
    (h : ∀ x dx, H x = none → H dx = none → dx ≠ x → sp (.ref x :: (vs ++ dvs)) (upd (upd H dx (.own x)) x (.ins C dx [])) (fun v H2 => v = .non ∧ Q (.ref x) H2) E) :
    wpAny (model X.prog X.w) X.A (call (.ref C) us) (EP X pins σ Q) X.xe s := by
  have hq := h (s.heap.objs.size + 1) s.heap.objs.size (I.hok.fresh (Nat.le_succ _)) (I.hok.fresh (Nat.le_refl _)) (Nat.ne_of_lt (Nat.lt_succ_self _))
  have I2 := Inv.made (C := C) I
  have r2 : Vals (V.ref (s.heap.objs.size + 1) :: (vs ++ dvs)) (Value.ref (s.heap.objs.size + 1) :: (us ++ ds)) := .cons rfl (r.append hd)
  have hl : (Value.ref (s.heap.objs.size + 1) :: us ++ ds).length = ps.length := by
    have e := r2.length
    rw [F.len _ _ _ _ hq] at e
    exact e.symm
  refine wpAny_call (make_map (f := f) I.kIn M.makes M.init (beq_iff_eq.mp M.fn) (codeAny_mono (F.run _ X.stack _ _ ⟨Value.ref (s.heap.objs.size + 1) :: us, []⟩ (Value.ref (s.heap.objs.size + 1) :: (us ++ ds)) _ _ E (hr.make C us [])
    (I2.env0.make C us []) (hb _ (Value.ref (s.heap.objs.size + 1) :: us) I2.kIn hl) r2 hq) fun r s' hq' => ?_))
  cases r with
  | error e => exact hx pins _ _ e s' I2 hq'
  | ok fl =>
    cases fl with
    | ret u =>
      obtain ⟨v, H', I3, rv, ev, q3⟩ := I2.after hq'
      subst ev
      exact ⟨rv, ⟨V.ref (s.heap.objs.size + 1), H', I3, rfl, q3⟩⟩
    | next => exact False.elim hq'
    | brk => exact False.elim hq'
    | cont => exact False.elim hq'
theorem pe_makeS {E : L2.St → XK} {dvs : List V} {ds : List Value} (M : Mk X.K C f) (F : FnOk X.prog X.w X.K X.mg X.base CX k f fd ps sp) (hr : Room (k + 1) X.A) (hg : Gl X x) (hm : X.mg x = some (.ref C)) (hb : Binds X.K fd ps ds) (hd : Vals dvs ds) (hx : ∀ σ, PassesAt CX X σ (E σ))
    (ha : PA X (e :: es) t) (hdb : (x == ("__debug__" : Str)) = false := by decide) (he : starEach (e :: es) X.env = (false, eval e X.env) :: starEach es X.env := by rfl) (hpl : (backTo pos (starEach es X.env)).any (·.1) = false := by rfl) :
    PE X (.Call (.Name x p) (e :: es) [] pos) (tMakeS C sp dvs E t) := by
  refine ⟨fun pins s σ H Q I h => ?_⟩
  refine wpAny_Call_Name_kw (ld_glob I hg hm ?_ hdb)
  refine PySem.W.callWith_K (h₀ := X.base) I.ok.mod.kin M.kp (thn (ha.run pos pins s σ H _ I h) fun us s1 ⟨vs, H1, I1, r, q⟩ => ⟨I1.kIn, ?_⟩) he hpl
  exact run_makeS M F hr hb hd (hx σ) I1 r q
end

/-! ### C.m(k = v, ..), m a classmethod -/
section
variable {CX : CXT} {k : Nat} {C q0 g : Addr} {mc : Value} {fd : FuncData} {ps ks : List Str} {sp : Sp} {E : XK} {o : Expr} {m : Str} {pos apos : Pos} {kws : List Keyword} {ta : TE} {tk : TA} {pl : Sem Bool}
def tCMethK (C : Addr) (n : Nat) (sp : Sp) (E : XK) (ta : TE) (tk : TA) : TE := fun σ H Q => ta σ H fun x H1 => x = .ref C ∧ tk σ H1 fun zs H2 => zs.length = n ∧ sp (.ref C :: zs) H2 Q E
theorem pe_cmethK0 (he : PE X o ta) (r : ClX.CRead X.K C mc) (c : ClX.CMet X.K C mc m q0 g) (F : FnOk X.prog X.w X.K X.mg X.base CX k g fd ps sp) (hr : Room k X.A) (hx : Passes CX X E) (hkw : PK X kws tk)
    (hb : ∀ (s : Shared) (ws : List Value), X.K.In s.heap → ws.length = ks.length → BindsTo s fd ⟨Value.ref C :: [], ks.zip ws⟩ (ps.zip (Value.ref C :: ws)))
    (hall : (backToKw pos (keywordEach kws X.env)).all (·.1.isSome) = true := by rfl) (hks : (backToKw pos (keywordEach kws X.env)).filterMap (·.1) = ks := by rfl)
    (hpl : ((backTo pos (starEach [] X.env)).any (·.1) || (backToKw pos (keywordEach kws X.env)).any (·.1.isNone)) = false := by rfl)
    (ht : eval (.Call (.Attribute o m apos) [] kws pos) X.env = (do
      let ov ← eval o X.env
      standAt apos.atName
      let (f, first) ← holding [ov] (getMethod ov m pl)
      callWith pos f first (backTo pos (starEach [] X.env)) (backToKw pos (keywordEach kws X.env))) := by rfl) :
    PE X (.Call (.Attribute o m apos) [] kws pos) (tCMethK C ks.length sp E ta tk) := by
  refine ⟨fun pins s σ H Q I h => ?_⟩
  refine PySem.W.methodCall_KW (pl := pl) (thn (he.run pins s σ H _ I h) fun u s1 ⟨x, H1, I1, rx, ex, h2⟩ => ?_) ht
  subst ex
  obtain rfl : u = Value.ref C := rx
  refine ClX.getmethcm_ok I1 r c fun s2 I2 => ?_
  refine PySem.W.callWith_of hpl (PySem.W.keeps_M (K := X.K) (self := Value.ref C) c.fi) (evalArgs_kw2_nil hall (thn (hkw.run pos _ s2 σ H1 _ I2 h2) fun ws s3 ⟨zs, H2, I3, rz, hl, h3⟩ => ⟨⟨ClX.pin_at I3, I3.kIn⟩, ?_⟩))
  rw [hks]
  suffices z : wpAny (model X.prog X.w) X.A (call (.ref s1.heap.objs.size) [] (ks.zip ws)) (EP X ((s1.heap.objs.size, PySem.W.methodObj (.ref g) (.ref C)) :: pins) σ Q) X.xe s3 from thn z fun _ _ y => ClX.unpinE y
  refine wpAny_call (PySem.W.method_call (ClX.pin_at I3) ?_)
  have r2 : Vals (V.ref C :: zs) (Value.ref C :: ws) := .cons rfl rz
  refine codeAny_mono (F.run X.A X.stack s3 H2 ⟨Value.ref C :: [], ks.zip ws⟩ (Value.ref C :: ws) (V.ref C :: zs) Q E hr I3.env0 (hb s3 ws I3.kIn (rz.length.symm.trans hl)) r2 h3) fun r s' hq => ?_
  cases r with
  | error er => exact hx _ σ H2 s3 er s' I3 hq
  | ok fl =>
    cases fl with
    | ret u => exact I3.after hq
    | next => exact False.elim hq
    | brk => exact False.elim hq
    | cont => exact False.elim hq
end

/-! ### an error with a dict of its own, asked for its class in an except suite -/
theorem class_of_err {prog : Program} {w : World} {A : Around} {E : Value → Shared → Prop} {s : Shared} {K : PySem.W.Frag} {x D : Addr} {ox od : Obj} {Q : Option Value → Shared → Prop} (C : ExcC K D) (hK : K.In s.heap) (J : PySem.W.InstAt s.heap x ox D (some od))
    (h : Q (some (.ref D)) { s with toks := s.toks + 1 }) : wpAny (model prog w) A (getAttr? (.ref x) "__class__") Q E s := by
  have hcd : (PySem.W.clsIn K D).isSome = true := by
    obtain ⟨cd, hc, _⟩ := PySem.W.any_some C.hd
    rw [hc]
    rfl
  have hf : PySem.W.findObj K D (some od) "__class__" = some (.bind (.builtin "getset_descriptor.__get__") (.builtin "object.__class__")) := PySem.W.findObj_data hcd C.ha C.hn C.ht
  obtain ⟨hp, gg, dr, tt, os⟩ := s
  have T0 := J.type (M := model prog w)
  have T1 := PySem.W.looks_findIn (M := model prog w) hK C.hg
  have T2 := PySem.W.looks_findIn (M := model prog w) hK C.hk
  have T3 := PySem.W.looks_find (M := model prog w) hK J hf
  have below : PySem.W.Looks (model prog w) hp (isInstance (.ref x) (.type "BaseException")) true := T0.andThen (PySem.W.looks_subIn hK C.hs)
  have b0 : (false && onTheHeap (Value.builtin "BaseException.__getattribute__")) = false := rfl
  have b2 : (Value.builtin "BaseException.__getattribute__" == Value.builtin "object.__getattribute__") = false := by decide +kernel
  have b1 : (onTheHeap (Value.ref D) && Value.builtin "BaseException.__getattribute__" == Value.builtin "object.__getattribute__") = false := by rw [b2]; rfl
  unfold getAttr? getAttrBy? getAttrBy
  refine wpAny_bind (wpAny_mkText (wpAny_bind (wpAny_attempt (wpAny_holding (wpAny_bind (T0.at (wpAny_bind (T1.at ?_))))))))
  show wpAny _ _ (if (onTheHeap (Value.ref D) && Value.builtin "BaseException.__getattribute__" == Value.builtin "object.__getattribute__") = true then _ else _) _ _ _
  rw [b1, if_neg Bool.false_ne_true]
  unfold getAttrByItsOwn hookBefore
  refine wpAny_bind ?_
  rw [if_pos (show onTheHeap (Value.ref D) = true from rfl)]
  refine T2.at ?_
  refine wpAny_bind (wpAny_attempt (wpAny_holding ?_))
  unfold callGetattribute
  rw [b0, if_neg Bool.false_ne_true]
  unfold boundAndCalled
  rw [PySem.F.excAttr_ValueError.ga.bind (.ref x)]
  refine wpAny_bind (wpAny_pure ?_)
  show wpAny _ _ (call (.builtin "BaseException.__getattribute__") [.ref x, .str "__class__" tt]) _ _ _
  refine wpAny_call (codeAny_call_builtin PySem.F.excAttr_ValueError.ga.plain PySem.F.entry_bexc_ga ?_)
  refine @PySem.W.check_slot (model prog w) _ _ ⟨hp, gg, dr, tt + 1, os⟩ "BaseException.__getattribute__" "BaseException" "__getattribute__" (.ref x) [.str "__class__" tt] [] _ (by decide +kernel) (by decide +kernel) below (PySem.F.args_bexc_ga (.ref x) (.str "__class__" tt)) ?_
  unfold Builtin.«object.__getattribute__»
  refine wpAny_bind (wpAny_of_eq (a := ((Value.ref x : Value), [Value.str "__class__" tt])) (by first | rfl | (simp only [slotArgs]; rfl)) ?_)
  refine wpAny_bind (wpAny_pure (wpAny_bind (T0.at (wpAny_bind (T3.at ?_)))))
  show wpAny _ _ (holding [Value.builtin "object.__class__"] (call (.builtin "getset_descriptor.__get__") [.builtin "object.__class__", .ref x, .ref D]) >>= ret) _ _ _
  refine wpAny_bind (wpAny_holding (wpAny_call (PySem.W.class_get (s := ⟨hp, gg, dr, tt + 1, os⟩) (ox := ox) (od := some od) hK J C.hm ?_)))
  refine wpAny_pure ?_
  show wpAny _ _ (handedOut (.ref D)) _ _ _
  rw [PySem.W.handedOut_of (v := .ref D) rfl]
  first
    | exact wpAny_pure (wpAny_pure h)
    | exact wpAny_pure h
    | exact wpAny_pure (wpAny_bind (wpAny_pure (wpAny_pure h)))
theorem kit_err {K : PySem.W.Frag} {x D : Addr} {ox od : Obj} (C : ExcC K D) : PySem.W.KitX K (.ref x) (.ref D) (fun h => PySem.W.InstAt h x ox D (some od)) where
  ty := fun _ _ _ J => J.type
  it := fun _ _ hK _ => by
    obtain ⟨cdD, hcD, _⟩ := PySem.W.any_some C.hd
    unfold PySem.W.clsIn at hcD
    split at hcD
    · rename_i c' d' cd' sl' ho
      intro A' Q' E' s' kk q
      unfold isType loadHead
      exact wpAny_bind (wpAny_loadPart (kk _ _ (hK _ _ ho)) (wpAny_pure q))
    · cases hcD
  ne := fun h tp dd its n sl hK htp => by
    obtain ⟨cdD, hcD, _⟩ := PySem.W.any_some C.hd
    refine Bool.eq_false_iff.mpr fun q => ?_
    have e : D = tp := Value.ref.inj (beq_iff_eq.mp q)
    subst e
    unfold PySem.W.clsIn at hcD
    split at hcD
    · rename_i c' d' cd' sl' ho
      have z := (hK _ _ ho).symm.trans htp
      cases z
    · cases hcD
  ca := fun hK J q => class_of_err C hK J q
def rIsEd (K : PySem.W.Frag) (a : Addr) (cls : Value) (d : Option Addr) (D : Addr) : List V → Hp → VK → Prop := fun xs H Q => ∃ (c : V) (cv : Value) (b : Bool) (dd : Addr) (fs : List (Str × V)), xs = [.ref a, c] ∧ cls = .ref D ∧ d = some dd ∧ ClsV c cv ∧ PySem.W.kitOne K (.ref D) cv = some b ∧ H dd = some (.xd fs) ∧ Q (.bl b) H
theorem call_isEd {a D : Addr} {cls : Value} {d : Option Addr} {oe : Obj} {pn : List (Addr × Obj)} (C : ExcC X.K D) (hz : Zc cls d oe) (hf : ∃ vs, oe.data = .fields vs) : CallR (X.suite a ((a, oe) :: pn)) (.builtin "isinstance") (rIsEd X.K a cls d D) := by
  intro pins s σ H xs us Q I r h
  obtain ⟨c, cv, b, dd, fs, rfl, e1, e2, hcv, e, hd, q⟩ := h
  subst e1
  subst e2
  obtain ⟨u, w', rfl, ru, rw'⟩ := vals2 r
  obtain rfl : u = Value.ref a := ru
  obtain rfl := hcv.eq rw'
  obtain ⟨hget, _⟩ := I.pin (a, oe) (List.mem_append.mpr (.inl List.mem_cons_self))
  obtain ⟨vs, hv⟩ := hf
  have hx : ObjOk X.prog X.w H s.heap dd (.xd fs) := I.hok dd _ hd
  obtain ⟨mA, hns, hrel⟩ := hx
  obtain ⟨od, ho, hl⟩ := lookIn_ns hns
  have J : PySem.W.InstAt s.heap a oe D (some od) := ⟨hget, hz.1, by unfold PySem.W.notCls; rw [hv] <;> rfl, by rw [hz.2]; exact ho⟩
  exact PySem.W.kia_one (kit_err C) I.kIn J e (fun z => nomatch z) fun tk => ⟨.bl b, H, I.kept (t' := tk) fun _ _ z => z, rfl, q⟩
end

/-! ### isinstance by the written part; keywords in another order -/
theorem kit_self {K : PySem.W.Frag} {C : Addr} : PySem.W.kitOne K (.ref C) (.ref C) = some true := by
  unfold PySem.W.kitOne
  rw [if_pos (by simp)]
theorem kit_sub {K : PySem.W.Frag} {t : Value} {C : Addr} {b : Bool} (ic : PySem.W.isClsIn K C = true) (ty : PySem.W.typeIn K (.ref C) = some (.type "type")) (su : PySem.W.subIn K t (.ref C) = some b) (ne : t ≠ .ref C) : PySem.W.kitOne K t (.ref C) = some b := by
  unfold PySem.W.kitOne
  rw [if_neg (by simpa using ne)]
  show (if ((PySem.W.clsIn K C).isSome && PySem.W.typeIn K (.ref C) == some (.type "type")) = true then PySem.W.subIn K t (.ref C) else none) = some b
  rw [ty, show (PySem.W.clsIn K C).isSome = true from ic, if_pos (by simp)]
  exact su
theorem kit_not {K : PySem.W.Frag} {t : Value} {C : Addr} (ic : PySem.W.isClsIn K C = true) (ty : PySem.W.typeIn K (.ref C) = some (.type "type")) (su : PySem.W.subIn K t (.ref C) = some false) (ne : t ≠ .ref C) : PySem.W.kitOne K t (.ref C) = some false := kit_sub ic ty su ne
def permL {α : Type} (is : List Nat) (ws : List α) : List α := is.filterMap fun i => ws[i]?
theorem permL_rel (is : List Nat) {zs : List V} {ws : List Value} (r : Vals zs ws) : Vals (permL is zs) (permL is ws) := by
  induction is with
  | nil => exact .nil
  | cons i is ih =>
    unfold permL at ih ⊢
    rw [List.filterMap_cons, List.filterMap_cons]
    cases e : zs[i]? with
    | none =>
      rw [r.none_of e]
      exact ih
    | some x =>
      obtain ⟨u, hu, ru⟩ := r.get e
      rw [hu]
      exact .cons ru ih
end My

/-! My own rules about operators of own classes: + - * with an instance or an int on either side, in place, unary minus, == with either answer, != of two lists with the same items. -/
namespace My
open PySem PySem.Spec PyProof.Rows L2

section
variable {X : Cx} {CX : CXT} {k : Nat} {C f : Addr} {fd : FuncData} {ps : List Str} {sp : Sp} {E : XK}
theorem run_own {pins : List (Addr × Obj)} {s : Shared} {σ : L2.St} {H : Hp} {Q : VK} {us : List Value} {vs : List V} (F : FnOk X.prog X.w X.K X.mg X.base CX k f fd ps sp) (hr : Room k X.A) (hb : Binds X.K fd ps []) (hx : Passes CX X E)
    (I : Inv X pins σ H s) (r : Vals vs us) (h : sp vs H Q E) : wpAny (model X.prog X.w) X.A (call (.ref f) us) (EP X pins σ Q) X.xe s := by
  have hl : (us ++ []).length = ps.length := by
    rw [List.append_nil, ← F.len _ _ _ _ h]
    exact r.length.symm
  refine wpAny_call (codeAny_mono (F.run X.A X.stack s H ⟨us, []⟩ us vs _ E hr I.env0 (by
    have := hb s us I.kIn hl
    rw [List.append_nil] at this
    exact this) r h) fun r s' hq => ?_)
  cases r with
  | error e => exact hx pins σ H s e s' I hq
  | ok fl =>
    cases fl with
    | ret w => exact I.after hq
    | next => exact False.elim hq
    | brk => exact False.elim hq
    | cont => exact False.elim hq
/-- what is handed back is no NotImplemented -/
theorem back_of {pins : List (Addr × Obj)} {σ : L2.St} {Q : VK} {v : Value} {s : Shared} (h : EP X pins σ Q v s) : PySem.W.CmpBack (EP X pins σ Q) v s := by
  obtain ⟨x, H, I, r, q⟩ := id h
  cases x with
  | non => obtain rfl : v = Value.none := r; exact h
  | bl b => obtain rfl : v = Value.bool b := r; exact h
  | int i => obtain ⟨t, rfl⟩ := r; exact h
  | str i => obtain ⟨t, rfl⟩ := r; exact h
  | byt i => obtain ⟨t, rfl⟩ := r; exact h
  | flt i => obtain ⟨t, rfl⟩ := r; exact h
  | ref a => obtain rfl : v = Value.ref a := r; exact h
  | ty n => obtain rfl : v = Value.type n := r; exact h

/-! ### the unary minus -/
def rNegO (C : Addr) (sp : Sp) (E : XK) : V → Hp → VK → Prop := fun x H Q => ∃ a dx fs, x = .ref a ∧ H a = some (.ins C dx fs) ∧ sp [.ref a] H Q E
theorem un_negO (hs : PySem.W.findIn X.K (.ref C) "__neg__" = some (some (.ref f))) (hf : PySem.W.isFn X.K (.ref f) = true) (F : FnOk X.prog X.w X.K X.mg X.base CX k f fd ps sp) (hr : Room k X.A) (hb : Binds X.K fd ps []) (hx : Passes CX X E) :
    UnR X (unaryOp .USub) (rNegO C sp E) := by
  intro pins s σ H x v Q I rx h
  obtain ⟨a, dx, fs, rfl, ea, q⟩ := h
  obtain rfl : v = Value.ref a := rx
  obtain ⟨mA, J, _⟩ := ins_get I.hok ea
  obtain ⟨od, J, _⟩ := J.look
  obtain ⟨m, hF⟩ := I.fr
  exact PySem.W.ksp_neg hF I.ok.mod.kin J hs hf (run_own (vs := [V.ref a]) F hr hb hx I (.cons rfl .nil) q)

/-! ### the operators with two sides -/
/-- what of the text an operator must have -/
structure OpO (K : PySem.W.Frag) (C : Addr) (nm : String) (f g : Addr) : Prop where
  sf : PySem.W.selfFirst K C = true
  ls : PySem.W.findIn K (.ref C) (PySem.dunder nm) = some (some (.ref f))
  lf : PySem.W.isFn K (.ref f) = true
  rs : PySem.W.findIn K (.ref C) (dunderR nm) = some (some (.ref g))
  rf : PySem.W.isFn K (.ref g) = true
  i1 : ∃ fo, PySem.W.findIn K (.type "int") (PySem.dunder nm) = some fo
  i2 : ∃ ro, PySem.W.findIn K (.type "int") (dunderR nm) = some ro
  su : PySem.W.subIn K (.type "int") (.ref C) = some false
  us : PySem.W.subIn K (.ref C) (.type "int") = some false
/-- int declines -/
structure Dec (nm : String) (id : String) (B : Builtin) : Prop where
  slot : Slot "int" (PySem.dunder nm) id
  entry : entryFor table id = some B
  args : ∀ a b, argsOk id ⟨[a, b], []⟩
  fills : fillsNumberSlot (.type "int") nm = pure true
  body : ∀ (a : Int) (t : Tok) (l C dx : Addr), Meets (B ⟨[.int a t, .ref l], []⟩) (fun _ R s => s.heap.get? l = some (PySem.W.instObj C dx) ∧ R (.ok (.ret Value.notImplemented)) s)
theorem dec_add : Dec "add" "int.__add__" Builtin.«int.__add__» := ⟨F.slot_int_add, F.entry_int_add, F.args_int_add_2, F.fills_int_add, fun a t l C dx => .of_wp fun prog w A R s h => by obtain ⟨hp, g, d, tk, os⟩ := s; obtain ⟨hl, h⟩ := h; wp_walk; exact ⟨_, rfl, h⟩⟩
theorem dec_sub : Dec "sub" "int.__sub__" Builtin.«int.__sub__» := ⟨F.slot_int_sub, F.entry_int_sub, F.args_int_sub_2, F.fills_int_sub, fun a t l C dx => .of_wp fun prog w A R s h => by obtain ⟨hp, g, d, tk, os⟩ := s; obtain ⟨hl, h⟩ := h; wp_walk; exact ⟨_, rfl, h⟩⟩
theorem dec_mul : Dec "mul" "int.__mul__" Builtin.«int.__mul__» := ⟨F.slot_int_mul, F.entry_int_mul, F.args_int_mul_2, F.fills_int_mul, fun a t l C dx => .of_wp fun prog w A R s h => by obtain ⟨hp, g, d, tk, os⟩ := s; obtain ⟨hl, h⟩ := h; wp_walk; exact ⟨_, rfl, h⟩⟩

section
variable {prog : Program} {w : World} {A : Around} {Ex : Value → Shared → Prop} {s : Shared} {K : PySem.W.Frag} {C f g : Addr} {nm : String}
open PySem.W
theorem b1_own {x y : Addr} {odx ody : Option Obj} {ox oy : Obj} {Q : Value → Shared → Prop} (X : K.In s.heap) (O : OpO K C nm f g) (I : InstAt s.heap x ox C odx) (J : InstAt s.heap y oy C ody)
    (h : wpAny (model prog w) A (call (.ref f) [.ref x, .ref y]) (PySem.W.CmpBack Q) Ex s) : wpAny (model prog w) A (binaryOp1 nm (.ref x) (.ref y)) (fun r s' => ∃ v, r = some v ∧ Q v s') Ex s := by
  obtain ⟨cd, rest, hcd, hm⟩ := ksp_first O.sf
  unfold binaryOp1
  refine wpAny_bind (I.type.here (wpAny_bind (J.type.here (wpAny_bind ((fills_K X hcd hm O.ls).here ?_)))))
  simp only [beq_self_eq_true, if_true]
  refine wpAny_bind (wpAny_pure ?_)
  simp only [Bool.and_false, Bool.false_eq_true, if_false, Bool.false_and]
  refine wpAny_bind (wpAny_pure ?_)
  simp only [Bool.false_eq_true, if_false]
  refine wpAny_bind (m := tryMethod (.ref x) _ (.ref y)) (wpAny_mono (ksp_try X I O.ls O.lf h) (fun r s' hr => ?_) fun _ _ e => e)
  obtain ⟨v, rfl, hq⟩ := hr
  exact wpAny_pure ⟨v, rfl, hq⟩
theorem b1_int {x : Addr} {i : Int} {t : Tok} {odx : Option Obj} {ox : Obj} {Q : Value → Shared → Prop} (X : K.In s.heap) (O : OpO K C nm f g) (I : InstAt s.heap x ox C odx)
    (h : wpAny (model prog w) A (call (.ref f) [.ref x, .int i t]) (PySem.W.CmpBack Q) Ex s) : wpAny (model prog w) A (binaryOp1 nm (.ref x) (.int i t)) (fun r s' => ∃ v, r = some v ∧ Q v s') Ex s := by
  obtain ⟨cd, rest, hcd, hm⟩ := ksp_first O.sf
  obtain ⟨fo, h1⟩ := O.i1
  obtain ⟨ro, h2⟩ := O.i2
  have one := ksp_try X I O.ls O.lf h
  obtain ⟨hh, gg, d, tt, os⟩ := s
  have L1 : Looks (model prog w) hh (typeOf (.ref x)) (.ref C) := I.type
  have L2 : Looks (model prog w) hh (typeOf (.int i t)) (.type "int") := Looks.of_pure rfl
  have L3 : Looks (model prog w) hh (fillsNumberSlot (.ref C) nm) true := fills_K X hcd hm O.ls
  have L4 : Looks (model prog w) hh (fillsNumberSlot (.type "int") nm) ((fo.isSome && !isSeqSlot fo) || (ro.isSome && !isSeqSlot ro)) := ksp_fillsT X h1 h2
  have L5 : Looks (model prog w) hh (isSubtype (.type "int") (.ref C)) false := looks_subIn X O.su
  have L6 : Looks (model prog w) hh (numberSlotInPython (.ref C) nm) true := ksp_inPy X O.ls O.rs (.inr ⟨_, rfl⟩)
  have L7 : Looks (model prog w) hh (numberSlotInPython (.type "int") nm) false := Looks.of_pure rfl
  have L8 : Looks (model prog w) hh (typeLookup (.type "int") (dunderR nm)) ro := looks_findIn X h2
  generalize ((fo.isSome && !isSeqSlot fo) || (ro.isSome && !isSeqSlot ro)) = right at L4
  have hne : (Value.ref C == Value.type "int") = false := Bool.eq_false_iff.mpr fun q => by cases beq_iff_eq.mp q
  unfold binaryOp1
  refine wpAny_bind (L1.at (wpAny_bind (L2.at (wpAny_bind (L3.at ?_)))))
  simp only [hne, Bool.false_eq_true, if_false]
  cases right with
  | false =>
    ksp_lk
    refine wpAny_mono one (fun r s' hr' => ?_) fun _ _ e => e
    obtain ⟨v, rfl, hq⟩ := hr'
    ksp_lk
    exact ⟨v, rfl, hq⟩
  | true =>
    ksp_lk
    refine wpAny_mono one (fun r s' hr' => ?_) fun _ _ e => e
    obtain ⟨v, rfl, hq⟩ := hr'
    ksp_lk
    exact ⟨v, rfl, hq⟩
theorem b1_rint {x dx : Addr} {i : Int} {t : Tok} {odx : Option Obj} {id : String} {B : Builtin} {Q : Value → Shared → Prop} (D : Dec nm id B) (X : K.In s.heap) (O : OpO K C nm f g) (I : InstAt s.heap x (instObj C dx) C odx)
    (h : wpAny (model prog w) A (call (.ref g) [.ref x, .int i t]) (PySem.W.CmpBack Q) Ex s) : wpAny (model prog w) A (binaryOp1 nm (.int i t) (.ref x)) (fun r s' => ∃ v, r = some v ∧ Q v s') Ex s := by
  obtain ⟨cd, rest, hcd, hm⟩ := ksp_first O.sf
  have one := ksp_try X I O.rs O.rf h
  have two : wpAny (model prog w) A (tryMethod (.int i t) (PySem.dunder nm) (.ref x)) (fun r s' => r = none ∧ s' = s) Ex s :=
    wpAny_tryMethod_declines (typeIs_int s i t) D.slot (call_meets D.slot (typeIs_int s i t) D.entry (D.args _ _) (D.body i t x C dx) ⟨I.at_, rfl, rfl, rfl⟩)
  have L1 : Looks (model prog w) s.heap (typeOf (.ref x)) (.ref C) := I.type
  have L3 : Looks (model prog w) s.heap (fillsNumberSlot (.ref C) nm) true := fills_K X hcd hm O.ls
  have L5 : Looks (model prog w) s.heap (isSubtype (.ref C) (.type "int")) false := looks_subIn X O.us
  have hne : (Value.type "int" == Value.ref C) = false := Bool.eq_false_iff.mpr fun q => by cases beq_iff_eq.mp q
  have hpy : numberSlotInPython (.type "int") nm = pure false := rfl
  unfold binaryOp1
  refine wpAny_bind (wpAny_typeOf (typeIs_int s i t) (wpAny_bind (L1.here (wpAny_bind (wpAny_of_eq D.fills ?_)))))
  simp only [hne, Bool.false_eq_true, if_false]
  refine wpAny_bind (L3.here ?_)
  simp only [Bool.and_self, if_true]
  refine wpAny_bind (L5.here ?_)
  simp only [Bool.false_eq_true, if_false, pure_bind, Bool.not_false, Bool.and_self, if_true, hpy]
  refine wpAny_bind (wpAny_mono two (fun r s' hr => ?_) fun _ _ e => e)
  obtain ⟨rfl, rfl⟩ := hr
  refine wpAny_bind (wpAny_mono one (fun r s' hr => ?_) fun _ _ e => e)
  obtain ⟨v, rfl, hq⟩ := hr
  ksp_lk
  exact ⟨v, rfl, hq⟩
end

/-! ### the operators as rules -/
section
variable {X : Cx} {CX CX' : CXT} {k k' : Nat} {C f g : Addr} {fd fd' : FuncData} {ps ps' : List Str} {sp sp' : Sp} {E : XK} {op : Operator}
theorem op_or {F : Value → Value → Sem Value} {r1 r2 : R2} (a : OpR X F r1) (b : OpR X F r2) : OpR X F (fun x y H Q => r1 x y H Q ∨ r2 x y H Q) := by
  intro pins s σ H x y v u Q I rx ry h
  rcases h with h | h
  · exact a pins s σ H x y v u Q I rx ry h
  · exact b pins s σ H x y v u Q I rx ry h
theorem un_or {F : Value → Sem Value} {r1 r2 : V → Hp → VK → Prop} (a : UnR X F r1) (b : UnR X F r2) : UnR X F (fun x H Q => r1 x H Q ∨ r2 x H Q) := by
  intro pins s σ H x v Q I rx h
  rcases h with h | h
  · exact a pins s σ H x v Q I rx h
  · exact b pins s σ H x v Q I rx h
def rOO (C : Addr) (sp : Sp) (E : XK) : R2 := fun x y H Q => ∃ a dx fs b dy gs, x = .ref a ∧ y = .ref b ∧ H a = some (.ins C dx fs) ∧ H b = some (.ins C dy gs) ∧ sp [.ref a, .ref b] H Q E
def rOI (C : Addr) (sp : Sp) (E : XK) : R2 := fun x y H Q => ∃ a dx fs i, x = .ref a ∧ y = .int i ∧ H a = some (.ins C dx fs) ∧ sp [.ref a, .int i] H Q E
def rIO (C : Addr) (sp : Sp) (E : XK) : R2 := fun x y H Q => ∃ b dy gs i, x = .int i ∧ y = .ref b ∧ H b = some (.ins C dy gs) ∧ sp [.ref b, .int i] H Q E
theorem b1_oo {nm : String} (O : OpO X.K C nm f g) (F : FnOk X.prog X.w X.K X.mg X.base CX k f fd ps sp) (hr : Room k X.A) (hb : Binds X.K fd ps []) (hx : Passes CX X E)
    {pins : List (Addr × Obj)} {s : Shared} {σ : L2.St} {H : Hp} {x y : V} {v u : Value} {Q : VK} (I : Inv X pins σ H s) (rx : RelV x v) (ry : RelV y u) (h : rOO C sp E x y H Q) :
    wpAny (model X.prog X.w) X.A (binaryOp1 nm v u) (fun r s' => ∃ z, r = some z ∧ EP X pins σ Q z s') X.xe s := by
  obtain ⟨a, dx, fs, b, dy, gs, rfl, rfl, ea, eb, q⟩ := h
  obtain rfl : v = Value.ref a := rx
  obtain rfl : u = Value.ref b := ry
  obtain ⟨mA, J, _⟩ := ins_get I.hok ea
  obtain ⟨od, J, _⟩ := J.look
  obtain ⟨mB, J', _⟩ := ins_get I.hok eb
  obtain ⟨od', J', _⟩ := J'.look
  exact b1_own I.kIn O J J' (wpAny_mono (run_own (vs := [V.ref a, V.ref b]) F hr hb hx I (.cons rfl (.cons rfl .nil)) q) (fun _ _ z => back_of z) fun _ _ e => e)
theorem b1_oi {nm : String} (O : OpO X.K C nm f g) (F : FnOk X.prog X.w X.K X.mg X.base CX k f fd ps sp) (hr : Room k X.A) (hb : Binds X.K fd ps []) (hx : Passes CX X E)
    {pins : List (Addr × Obj)} {s : Shared} {σ : L2.St} {H : Hp} {x y : V} {v u : Value} {Q : VK} (I : Inv X pins σ H s) (rx : RelV x v) (ry : RelV y u) (h : rOI C sp E x y H Q) :
    wpAny (model X.prog X.w) X.A (binaryOp1 nm v u) (fun r s' => ∃ z, r = some z ∧ EP X pins σ Q z s') X.xe s := by
  obtain ⟨a, dx, fs, i, rfl, rfl, ea, q⟩ := h
  obtain rfl : v = Value.ref a := rx
  obtain ⟨t, rfl⟩ := ry
  obtain ⟨mA, J, _⟩ := ins_get I.hok ea
  obtain ⟨od, J, _⟩ := J.look
  exact b1_int I.kIn O J (wpAny_mono (run_own (vs := [V.ref a, V.int i]) F hr hb hx I (.cons rfl (.cons ⟨t, rfl⟩ .nil)) q) (fun _ _ z => back_of z) fun _ _ e => e)
theorem b1_io {nm : String} {id : String} {B : Builtin} (D : Dec nm id B) (O : OpO X.K C nm f g) (F : FnOk X.prog X.w X.K X.mg X.base CX k g fd ps sp) (hr : Room k X.A) (hb : Binds X.K fd ps []) (hx : Passes CX X E)
    {pins : List (Addr × Obj)} {s : Shared} {σ : L2.St} {H : Hp} {x y : V} {v u : Value} {Q : VK} (I : Inv X pins σ H s) (rx : RelV x v) (ry : RelV y u) (h : rIO C sp E x y H Q) :
    wpAny (model X.prog X.w) X.A (binaryOp1 nm v u) (fun r s' => ∃ z, r = some z ∧ EP X pins σ Q z s') X.xe s := by
  obtain ⟨b, dx, fs, i, rfl, rfl, ea, q⟩ := h
  obtain rfl : u = Value.ref b := ry
  obtain ⟨t, rfl⟩ := rx
  obtain ⟨mA, J, _⟩ := ins_get I.hok ea
  obtain ⟨od, J, _⟩ := J.look
  exact b1_rint D I.kIn O J (wpAny_mono (run_own (vs := [V.ref b, V.int i]) F hr hb hx I (.cons rfl (.cons ⟨t, rfl⟩ .nil)) q) (fun _ _ z => back_of z) fun _ _ e => e)
theorem bin_of {M : Model} {A : Around} {Ex : Value → Shared → Prop} {s : Shared} {nm : String} (hn : op.info.2 = nm) {v u : Value} {R : Value → Shared → Prop} (h : wpAny M A (binaryOp1 nm v u) (fun r s' => ∃ z, r = some z ∧ R z s') Ex s) : wpAny M A (binaryOp op v u) R Ex s := by
  unfold binaryOp
  refine wpAny_holding (wpAny_bind ?_)
  subst hn
  refine wpAny_mono (show wpAny M A (binaryOp1 op.info.2 v u) _ _ _ from h) (fun r s' hr => ?_) fun _ _ e => e
  obtain ⟨z, rfl, q⟩ := hr
  exact wpAny_pure q
theorem op_oo {nm : String} (hn : op.info.2 = nm) (O : OpO X.K C nm f g) (F : FnOk X.prog X.w X.K X.mg X.base CX k f fd ps sp) (hr : Room k X.A) (hb : Binds X.K fd ps []) (hx : Passes CX X E) : OpR X (binaryOp op) (rOO C sp E) :=
  fun _ _ _ _ _ _ _ _ _ I rx ry h => bin_of hn (b1_oo O F hr hb hx I rx ry h)
theorem op_oi {nm : String} (hn : op.info.2 = nm) (O : OpO X.K C nm f g) (F : FnOk X.prog X.w X.K X.mg X.base CX k f fd ps sp) (hr : Room k X.A) (hb : Binds X.K fd ps []) (hx : Passes CX X E) : OpR X (binaryOp op) (rOI C sp E) :=
  fun _ _ _ _ _ _ _ _ _ I rx ry h => bin_of hn (b1_oi O F hr hb hx I rx ry h)
theorem op_io {nm : String} {id : String} {B : Builtin} (hn : op.info.2 = nm) (D : Dec nm id B) (O : OpO X.K C nm f g) (F : FnOk X.prog X.w X.K X.mg X.base CX k g fd ps sp) (hr : Room k X.A) (hb : Binds X.K fd ps []) (hx : Passes CX X E) : OpR X (binaryOp op) (rIO C sp E) :=
  fun _ _ _ _ _ _ _ _ _ I rx ry h => bin_of hn (b1_io D O F hr hb hx I rx ry h)
/-! ### in place, without a method of its own for it -/
structure NoI (K : PySem.W.Frag) (C : Addr) (nm : String) : Prop where
  mro : ∃ cd, PySem.W.clsIn K C = some cd ∧ cd.mro = [.ref C, .type "object"]
  own : PySem.W.findIn K (.ref C) (dunderI nm) = some none
  obj : PySem.W.findIn K (.type "object") (dunderI nm) = some none
open PySem.W in
theorem looks_noI {M : Model} {h : Heap} {nm : String} {add : Bool} {K : Frag} (X : K.In h) (N : NoI K C nm) : Looks M h (fillsInplaceSlot (.ref C) nm add) false := by
  intro A Q E s k q
  obtain ⟨cd, hc, hm⟩ := N.mro
  have Lm : Looks M h (mroOf (.ref C)) cd.mro := (looks_clsIn X hc).andThen (f := fun cd => pure cd.mro) .now
  have Lm' := Lm.keeps k
  obtain ⟨hh, g, d, tt, os⟩ := s
  have X' : K.In hh := X.keeps k
  have L1 : Looks M hh (typeLookup (.ref C) (dunderI nm)) none := looks_findIn X' N.own
  have L2 : Looks M hh (typeLookup (.type "object") (dunderI nm)) none := looks_findIn X' N.obj
  unfold fillsInplaceSlot
  refine wpAny_bind (Lm'.at ?_)
  rw [hm, List.anyM_cons]
  refine wpAny_bind (wpAny_bind (L1.at ?_))
  refine wpAny_pure ?_
  rw [if_neg Bool.false_ne_true, List.anyM_cons]
  refine wpAny_bind (wpAny_bind (L2.at ?_))
  refine wpAny_pure ?_
  rw [if_neg Bool.false_ne_true]
  exact wpAny_pure q
theorem inp_of {M : Model} {A : Around} {Ex : Value → Shared → Prop} {s : Shared} {nm : String} {K : PySem.W.Frag} {a dx : Addr} {ox : Obj} {od : Option Obj} (hn : op.info.2 = nm) (X : K.In s.heap) (I : PySem.W.InstAt s.heap a ox C od) (N : NoI K C nm) {u : Value} {R : Value → Shared → Prop}
    (h : wpAny M A (binaryOp1 nm (.ref a) u) (fun r s' => ∃ z, r = some z ∧ R z s') Ex s) : wpAny M A (inplaceOp op (.ref a) u) R Ex s := by
  subst hn
  unfold inplaceOp
  refine wpAny_holding ?_
  refine wpAny_bind (I.type.here ?_)
  refine wpAny_bind ((looks_noI X N).here ?_)
  rw [if_neg Bool.false_ne_true]
  refine wpAny_bind (wpAny_mono h (fun r s' hr => ?_) fun _ _ e => e)
  obtain ⟨z, rfl, q⟩ := hr
  exact wpAny_pure q
theorem iop_oo {nm : String} (hn : op.info.2 = nm) (N : NoI X.K C nm) (O : OpO X.K C nm f g) (F : FnOk X.prog X.w X.K X.mg X.base CX k f fd ps sp) (hr : Room k X.A) (hb : Binds X.K fd ps []) (hx : Passes CX X E) : OpR X (inplaceOp op) (rOO C sp E) := by
  intro pins s σ H x y v u Q I rx ry h
  have h' := b1_oo O F hr hb hx I rx ry h
  obtain ⟨a, dx, fs, b, dy, gs, rfl, rfl, ea, eb, q⟩ := h
  obtain rfl : v = Value.ref a := rx
  obtain ⟨mA, J, _⟩ := ins_get I.hok ea
  obtain ⟨od, J, _⟩ := J.look
  exact inp_of (dx := dx) hn I.kIn J N h'
theorem iop_oi {nm : String} (hn : op.info.2 = nm) (N : NoI X.K C nm) (O : OpO X.K C nm f g) (F : FnOk X.prog X.w X.K X.mg X.base CX k f fd ps sp) (hr : Room k X.A) (hb : Binds X.K fd ps []) (hx : Passes CX X E) : OpR X (inplaceOp op) (rOI C sp E) := by
  intro pins s σ H x y v u Q I rx ry h
  have h' := b1_oi O F hr hb hx I rx ry h
  obtain ⟨a, dx, fs, i, rfl, rfl, ea, q⟩ := h
  obtain rfl : v = Value.ref a := rx
  obtain ⟨mA, J, _⟩ := ins_get I.hok ea
  obtain ⟨od, J, _⟩ := J.look
  exact inp_of (dx := dx) hn I.kIn J N h'
/-! ### == by the class's own method, with either answer -/
theorem cmp_own (hs : PySem.W.findIn X.K (.ref C) "__eq__" = some (some (.ref f))) (hf : PySem.W.isFn X.K (.ref f) = true) (F : FnOk X.prog X.w X.K X.mg X.base CX k f fd ps sp) (hr : Room k X.A) (hb : Binds X.K fd ps []) (hx : Passes CX X E) : OpR X (compareOp .Eq) (rOO C sp E) := by
  intro pins s σ H x y v u Q I rx ry h
  obtain ⟨a, dx, fs, b, dy, gs, rfl, rfl, ea, eb, q⟩ := h
  obtain rfl : v = Value.ref a := rx
  obtain rfl : u = Value.ref b := ry
  obtain ⟨mA, J, _⟩ := ins_get I.hok ea
  obtain ⟨od, J, _⟩ := J.look
  obtain ⟨mB, J', _⟩ := ins_get I.hok eb
  obtain ⟨od', J', _⟩ := J'.look
  obtain ⟨m, hF⟩ := I.fr
  show wpAny (model X.prog X.w) X.A (richCompare .Eq (.ref a) (.ref b)) (EP X pins σ Q) X.xe s
  refine PySem.W.cmp_K (op := .Eq) (tb := .ref C) hr.units0 hF I.ok.mod.kin J J'.type (by simp [PySem.W.notFirst]) hs hf ?_
  exact wpAny_mono (run_own (vs := [V.ref a, V.ref b]) F hr hb hx I (.cons rfl (.cons rfl .nil)) q) (fun _ _ z => back_of z) fun _ _ e => e
/-! ### != of two lists with the same items -/
def plainV : V → Bool
  | .int _ => true
  | .ref _ => true
  | _ => false
def rNeSame (K : PySem.W.Frag) : R2 := fun x y H Q => ∃ a b xs, x = .ref a ∧ y = .ref b ∧ SqL K H a xs ∧ SqL K H b xs ∧ (∀ z ∈ xs, plainV z = true) ∧ Q (.bl false) H
theorem eqAt_same {A : Around} {s : Shared} {z : V} {u v : Value} (h : plainV z = true) (r : RelV z u) (r' : RelV z v) : SeqAt.EqAt A s u v true := by
  cases z with
  | int i =>
    have := eqAt_V (A := A) (s := s) r r' rfl rfl
    have e : eqV (.int i) (.int i) = true := by simp [eqV]
    rw [e] at this
    exact this
  | ref a =>
    obtain rfl : u = Value.ref a := r
    obtain rfl : v = Value.ref a := r'
    exact SeqAt.EqAt.same _
  | _ => cases h
theorem op_neSame (hu : X.A.units < cLine) : OpR X (compareOp .NotEq) (rNeSame X.K) := by
  intro pins s σ H x y v u Q I rx ry h
  obtain ⟨a, b, xs, rfl, rfl, ha, hb, hp, q⟩ := h
  obtain rfl : v = Value.ref a := rx
  obtain rfl : u = Value.ref b := ry
  obtain ⟨its, r, ⟨o, n, e, c, d, dt⟩, _⟩ := I.list ha
  obtain ⟨its2, r2, ⟨o2, n2, e2, c2, d2, dt2⟩, _⟩ := I.list hb
  have hsz : its.toArray.size = its2.toArray.size := by rw [List.size_toArray, List.size_toArray, ← r.length, ← r2.length]
  show wpAny (model X.prog X.w) X.A (richCompare .NotEq (.ref a) (.ref b)) (EP X pins σ Q) X.xe s
  refine SeqAt.RcNeAt.lists (e := fun _ => true) ⟨o, e, c, n, dt⟩ ⟨o2, e2, c2, n2, dt2⟩ hsz hu (fun j h1 h2 => ?_) _ _ _ _ ?_
  · have k1 : j < xs.length := by rw [r.length]; simpa using h1
    obtain ⟨w1, hw1, rw1⟩ := r.get (List.getElem?_eq_getElem k1)
    obtain ⟨w2, hw2, rw2⟩ := r2.get (List.getElem?_eq_getElem k1)
    have g1 : its[j]? = some its.toArray[j] := by
      have h1' : j < its.length := by simpa using h1
      rw [List.getElem?_eq_getElem h1'] <;> simp
    have g2 : its2[j]? = some its2.toArray[j] := by
      have h2' : j < its2.length := by simpa using h2
      rw [List.getElem?_eq_getElem h2'] <;> simp
    rw [g1] at hw1
    rw [g2] at hw2
    rw [Option.some.inj hw1, Option.some.inj hw2]
    exact eqAt_same (hp _ (List.getElem_mem k1)) rw1 rw2
  · have e : (!(List.range its.toArray.size).all fun _ => true) = false := by simp
    rw [e]
    exact ⟨.bl false, H, I, rfl, q⟩
end
/-! ### list or tuple -/
section
variable {X : Cx}
theorem ix_or {r1 r2 : R2} (a : IxR X r1) (b : IxR X r2) : IxR X (fun x y H Q => r1 x y H Q ∨ r2 x y H Q) := by
  intro value slice pins s σ H x y v u Q I rx ry h
  rcases h with h | h
  · exact a value slice pins s σ H x y v u Q I rx ry h
  · exact b value slice pins s σ H x y v u Q I rx ry h
def iSeq (K : PySem.W.Frag) (tl : TE) : TI := fun σ H R => tl σ H fun x H1 => ∃ a, x = .ref a ∧ (((∃ xs, SqL K H1 a xs) ∧ R (Itl K a) H1) ∨ ((∃ xs, SqT K H1 a xs) ∧ R (Itt K a) H1))
theorem pi_seq {tg l : Expr} {tl : TE} (hl : PE X l tl) : PI X tg l (iSeq X.K tl) := by
  refine ⟨fun pins s σ H R I h => ?_⟩
  refine thn (hl.run pins s σ H _ I h) fun v s1 ⟨x, H1, I1, r1, q1⟩ => ?_
  obtain ⟨a, e, ⟨⟨xs, hq⟩, q⟩ | ⟨⟨xs, hq⟩, q⟩⟩ := q1
  · subst e
    cases r1
    obtain ⟨its, rv, p, hz⟩ := I1.list hq
    refine wpAny_pyIter_list p.isList ?_
    refine ⟨s1.heap.objs.size, [s1.heap.objs.size], _, _, H1, rfl, I1.kept (t' := s1.toks) fun b o e => Heap.get?_push_of_some _ e, turn_list a _, ⟨_, Heap.get?_push_size _ rfl, rfl, rfl⟩, fun b hb => ?_, q⟩
    have e : b = s1.heap.objs.size := by simpa using hb
    subst e
    exact I1.fpOk (Nat.le_refl _) (I1.hok.fresh (Nat.le_refl _))
  · subst e
    cases r1
    obtain ⟨its, rv, p, hz⟩ := I1.tuple hq
    refine wpAny_pyIter_tuple (show s1.heap.IsTuple a its.toArray from p) ?_
    refine ⟨s1.heap.objs.size, [s1.heap.objs.size], _, _, H1, rfl, I1.kept (t' := s1.toks) fun b o e => Heap.get?_push_of_some _ e, turn_tuple a _, ⟨_, Heap.get?_push_size _ rfl, rfl, rfl⟩, fun b hb => ?_, q⟩
    have e : b = s1.heap.objs.size := by simpa using hb
    subst e
    exact I1.fpOk (Nat.le_refl _) (I1.hok.fresh (Nat.le_refl _))
end
end
end My

/-! My own rules about calls that raise: by keywords alone, at the caller's slots; through a def's body. -/
namespace My
open PySem PySem.Spec PyProof.Rows L2
section
variable {X : Cx} {CX : CXT} {k : Nat} {f : Addr} {fd : FuncData} {ps ks : List Str} {sp : Sp} {E : L2.St → XK} {x : Str} {p pos : Pos} {kws : List Keyword} {tk : TA} {g : List Value → List Value → List Value} {gV : List V → List V → List V}
theorem run_fnkS {pins : List (Addr × Obj)} {σ : L2.St} {H : Hp} {s : Shared} {Q : VK} {us ws : List Value} {vs zs : List V} (F : FnOk X.prog X.w X.K X.mg X.base CX k f fd ps sp) (hr : Room k X.A) (hb : KBinds X.K fd ps ks g gV) (hx : PassesAt CX X σ (E σ))
    (I : Inv X pins σ H s) (r : Vals vs us) (rz : Vals zs ws) (h : sp (gV vs zs) H Q (E σ)) : wpAny (model X.prog X.w) X.A (call (.ref f) us (ks.zip ws)) (EP X pins σ Q) X.xe s := by
  have r2 := hb.rel r rz
  have hl : (g us ws).length = ps.length := by rw [← r2.length]; exact F.len _ _ _ _ h
  refine wpAny_call (codeAny_mono (F.run X.A X.stack s H ⟨us, ks.zip ws⟩ (g us ws) (gV vs zs) Q (E σ) hr I.env0 (hb.to s us ws I.kIn hl) r2 h) fun r s' hq => ?_)
  cases r with
  | error e => exact hx pins H s e s' I hq
  | ok fl =>
    cases fl with
    | ret u => exact I.after hq
    | next => exact False.elim hq
    | brk => exact False.elim hq
    | cont => exact False.elim hq
def tCallK0S (sp : Sp) (gV : List V → List V → List V) (E : L2.St → XK) (tk : TA) : TE := fun σ H Q => tk σ H fun zs H2 => sp (gV [] zs) H2 Q (E σ)
theorem pe_callK0S (F : FnOk X.prog X.w X.K X.mg X.base CX k f fd ps sp) (hr : Room k X.A) (hg : Gl X x) (hm : X.mg x = some (.ref f)) (hk : PySem.W.keepIn X.K (.ref f) = true) (hb : KBinds X.K fd ps ks g gV) (hx : ∀ σ, PassesAt CX X σ (E σ))
    (hkw : PK X kws tk) (hall : (backToKw pos (keywordEach kws X.env)).all (·.1.isSome) = true := by rfl) (hks : (backToKw pos (keywordEach kws X.env)).filterMap (·.1) = ks := by rfl)
    (hdb : (x == ("__debug__" : Str)) = false := by decide)
    (hpl : ((backTo pos (starEach [] X.env)).any (·.1) || (backToKw pos (keywordEach kws X.env)).any (·.1.isNone)) = false := by rfl) :
    PE X (.Call (.Name x p) [] kws pos) (tCallK0S sp gV E tk) := by
  refine ⟨fun pins s σ H Q I h => ?_⟩
  refine wpAny_Call_Name_kw (ld_glob I hg hm ?_ hdb)
  refine PySem.W.callWith_KW0 (h₀ := X.base) I.ok.mod.kin hk hall (thn (hkw.run pos pins s σ H _ I h) fun ws s2 ⟨zs, H2, I2, rz, q2⟩ => ⟨I2.kIn, ?_⟩) hpl
  rw [hks]
  exact run_fnkS (us := []) (vs := []) F hr hb (hx σ) I2 .nil rz q2
end
section
variable {X : Cx} {E E' : XK}
/-- what a callee lets out leaves this def too -/
theorem passX (tk : Takes X (fun cls d _ H => E cls d H)) : Passes (L2.CX X.prog X.w) X E := fun pins σ H s e s' I c => L2.passes_call tk (fun _ _ _ _ h => h) pins σ H s e s' I c
end
end My

/-! My own rules: != by object.__ne__ over an own ==, x is a bool, o.m(k = v). -/
namespace My
open PySem PySem.Spec PyProof.Rows L2

section
variable {X : Cx} {CX : CXT} {k : Nat} {C f : Addr} {fd : FuncData} {ps : List Str} {sp : Sp} {E : XK}
/-- a method run below a built-in -/
theorem run_own1 {pins : List (Addr × Obj)} {s : Shared} {σ : L2.St} {H : Hp} {Q : VK} {us : List Value} {vs : List V} (F : FnOk X.prog X.w X.K X.mg X.base CX k f fd ps sp) (hr : Room (k + 1) X.A) (hb : Binds X.K fd ps []) (hx : Passes CX X E)
    (I : Inv X pins σ H s) (r : Vals vs us) (h : sp vs H Q E) : wpAny (model X.prog X.w) X.A.in1 (call (.ref f) us) (EP X pins σ Q) X.xe s := by
  have hl : (us ++ []).length = ps.length := by
    rw [List.append_nil, ← F.len _ _ _ _ h]
    exact r.length.symm
  refine wpAny_call (codeAny_mono (F.run X.A.in1 X.stack s H ⟨us, []⟩ us vs _ E hr.in1 I.env0.in1 (by
    have := hb s us I.kIn hl
    rw [List.append_nil] at this
    exact this) r h) fun r s' hq => ?_)
  cases r with
  | error e => exact hx pins σ H s e s' I hq
  | ok fl =>
    cases fl with
    | ret w => exact I.after hq
    | next => exact False.elim hq
    | brk => exact False.elim hq
    | cont => exact False.elim hq
/-- C has no != of its own -/
structure NoNe (K : PySem.W.Frag) (C f : Addr) : Prop where
  ne : PySem.W.findIn K (.ref C) "__ne__" = some (some (.builtin "object.__ne__"))
  ob : PySem.W.subIn K (.ref C) (.type "object") = some true
  eq : PySem.W.findIn K (.ref C) "__eq__" = some (some (.ref f))
  fn : PySem.W.isFn K (.ref f) = true
theorem ne_K {prog : Program} {w : World} {A : Around} {Ex : Value → Shared → Prop} {s : Shared} {K : PySem.W.Frag} {a b : Addr} {oa ob : Obj} {oda odb : Option Obj} {Q : Value → Shared → Prop} (hu : A.units + 1 < cLine) (X : K.In s.heap) (N : NoNe K C f)
    (I : PySem.W.InstAt s.heap a oa C oda) (J : PySem.W.InstAt s.heap b ob C odb) (h : wpAny (model prog w) A.in1 (call (.ref f) [.ref a, .ref b]) (fun v s' => ∃ r, v = .bool r ∧ Q (.bool (!r)) s') Ex s) :
    wpAny (model prog w) A (richCompare .NotEq (.ref a) (.ref b)) Q Ex s := by
  have body : wpAny (model prog w) A.in1 (Builtin.«object.__ne__» ⟨[.ref a, .ref b], []⟩) (fun fin s' => ∃ r, fin = .done (.ret (.bool (!r))) ∧ Q (.bool (!r)) s') Ex s := by
    unfold Builtin.«object.__ne__»
    refine wpAny_bind (wpAny_of_eq (a := ((Value.ref a : Value), [Value.ref b])) (by first | rfl | (simp only [slotArgs]; rfl)) ?_)
    refine wpAny_bind (wpAny_cRoomFor hu ?_)
    refine wpAny_bind (PySem.W.ifBound_K X I N.eq N.fn (wpAny_mono h (fun v s' hv => ?_) fun _ _ e => e))
    obtain ⟨r, rfl, q⟩ := hv
    refine wpAny_bind (wpAny_truthy_bool ?_)
    exact wpAny_pure ⟨r, rfl, q⟩
  have below : PySem.W.Looks (model prog w) s.heap (isInstance (.ref a) (.type "object")) true := I.type.andThen (PySem.W.looks_subIn X N.ob)
  have one : wpAny (model prog w) A (tryCompare (.ref a) "__ne__" (.ref b)) (fun r s' => ∃ t, r = some (.bool (!t)) ∧ Q (.bool (!t)) s') Ex s := by
    unfold tryCompare
    simp only [callSpecialIfBound?, bindSpecialIfBound?]
    refine wpAny_bind (wpAny_holding (wpAny_bind (wpAny_bind (wpAny_bind (I.type.here ((PySem.W.looks_findIn X N.ne).here ?_))))))
    simp only [F.cmp_object.ne.bind]
    refine wpAny_bind (wpAny_askSetting (wpAny_ite ?_))
    have fin : wpAny (model prog w) A (call (.builtin "object.__ne__") ([.ref a] ++ [.ref b]) >>= fun v => pure (some v)) (fun r s' => ∃ t, r = some (.bool (!t)) ∧ Q (.bool (!t)) s') Ex s := by
      refine wpAny_bind (wpAny_call (codeAny_call_builtin F.cmp_object.ne.plain F.cmpEntry_ne (PySem.W.check_slot F.cmpKind_ne F.cmpSplit_ne below (F.cmpArgs_ne _ _) (wpAny_mono body (fun fin s' hf => ?_) fun _ _ e => e))))
      obtain ⟨r, rfl, q⟩ := hf
      exact wpAny_pure ⟨r, rfl, q⟩
    have fin2 := wpAny_mono fin (Q' := fun a s' => wpAny (model prog w) A (match a with
        | some Value.notImplemented => pure none
        | none => pure none
        | some v => pure (some v)) (fun r s' => ∃ t, r = some (Value.bool !t) ∧ Q (Value.bool !t) s') Ex s') (fun r s' hr => by
      obtain ⟨t, rfl, q⟩ := hr
      exact wpAny_pure ⟨t, rfl, q⟩) fun _ _ e => e
    split
    · exact wpAny_pure (by exact fin2)
    · exact wpAny_tryCatch (wpAny_pure (by exact fin2))
  unfold richCompare
  simp only [oneThing_ref]
  refine wpAny_holding (wpAny_bind (wpAny_cRoomFor (by omega) ?_))
  refine wpAny_bind (I.type.here (wpAny_bind (J.type.here ?_)))
  split
  · rename_i q
    simp at q
  · refine wpAny_bind (wpAny_pure ?_)
    simp only [Bool.false_eq_true, if_false]
    refine wpAny_bind (wpAny_mono one (fun r s' z => ?_) fun _ _ e => e)
    obtain ⟨t, rfl, hq⟩ := z
    exact wpAny_pure hq
/-- x is y, two bools -/
theorem op_isB : OpR X (compareOp .Is) (fun x y H Q => ∃ a b, x = .bl a ∧ y = .bl b ∧ Q (.bl (decide (a = b))) H) := by
  intro pins s σ H x y v u Q I rx ry h
  obtain ⟨a, b, rfl, rfl, q⟩ := h
  cases rx
  cases ry
  show wpAny (model X.prog X.w) X.A (do return .bool (← isSame (.bool a) (.bool b))) (EP X pins σ Q) X.xe s
  refine wpAny_bind ?_
  unfold isSame
  cases a <;> cases b <;> exact wpAny_pure (wpAny_pure ⟨.bl (decide _), H, I, by rfl, q⟩)
section
variable {ks : List Str} {g : List Value → List Value → List Value} {gV : List V → List V → List V} {o : Expr} {m : Str} {pos apos : Pos} {kws : List Keyword} {ta : TE} {tk : TA}
/-- o.m(k = v, ..), nothing by place -/
def tMethK0 (C : Addr) (m : Str) (sp : Sp) (gV : List V → List V → List V) (E : XK) (ta : TE) (tk : TA) : TE := fun σ H Q => ta σ H fun x H1 => ∃ a dx fs, x = .ref a ∧ H1 a = some (.ins C dx fs) ∧ fs.lookup m = none ∧ tk σ H1 fun zs H2 => sp (gV [x] zs) H2 Q E
theorem pe_methK0 {pl : Sem Bool} (he : PE X o ta) (c : Cls X.K C) (hm : Meth X.K C m f) (F : FnOk X.prog X.w X.K X.mg X.base CX k f fd ps sp) (hr : Room k X.A) (hb : KBinds X.K fd ps ks g gV) (hx : Passes CX X E) (hkw : PK X kws tk)
    (hall : (backToKw pos (keywordEach kws X.env)).all (·.1.isSome) = true := by rfl) (hks : (backToKw pos (keywordEach kws X.env)).filterMap (·.1) = ks := by rfl)
    (hpl : ((backTo pos (starEach [] X.env)).any (·.1) || (backToKw pos (keywordEach kws X.env)).any (·.1.isNone)) = false := by rfl)
    (ht : eval (.Call (.Attribute o m apos) [] kws pos) X.env = (do
      let ov ← eval o X.env
      standAt apos.atName
      let (f, first) ← holding [ov] (getMethod ov m pl)
      callWith pos f first (backTo pos (starEach [] X.env)) (backToKw pos (keywordEach kws X.env))) := by rfl) :
    PE X (.Call (.Attribute o m apos) [] kws pos) (tMethK0 C m sp gV E ta tk) := by
  refine ⟨fun pins s σ H Q I h => ?_⟩
  refine PySem.W.methodCall_KW (pl := pl) (thn (he.run pins s σ H _ I h) fun u s1 ⟨x, H1, I1, rx, a, dx, fs, ex, ea, l, q⟩ => ?_) ht
  subst ex
  obtain rfl : u = Value.ref a := rx
  refine getmeth_ok I1 ea c hm l ?_
  refine PySem.W.callWith_KW0 (first := [.ref a]) (h₀ := X.base) I.ok.mod.kin hm.kp hall (thn (hkw.run pos pins s1 σ H1 _ I1 q) fun ws s2 ⟨zs, H2, I2, rz, q2⟩ => ⟨I2.kIn, ?_⟩) hpl
  rw [hks]
  exact run_fnk (us := [.ref a]) (vs := [.ref a]) F hr hb hx I2 (.cons rfl .nil) rz q2
end
/-! ### a built-in value == an instance: the instance's own == answers -/
theorem eq_right {prog : Program} {w : World} {A : Around} {Ex : Value → Shared → Prop} {s : Shared} {K : PySem.W.Frag} {a : Value} {b : Addr} {ob : Obj} {odb : Option Obj} {Ta ida : String} {Q : Value → Shared → Prop} (hu : A.units < cLine) (X : K.In s.heap)
    (he : PySem.W.findIn K (.ref C) "__eq__" = some (some (.ref f))) (hf : PySem.W.isFn K (.ref f) = true) (ha : s.TypeIs a Ta) (J : PySem.W.InstAt s.heap b ob C odb) (hsub : PySem.W.subIn K (.ref C) (.type Ta) = some false)
    (h1 : Slot Ta (cmpInfo .Eq).2.1 ida) (hc1 : ∀ Q' : Value → Shared → Prop, Q' .notImplemented s → wpAny (model prog w) A (call (.builtin ida) [a, .ref b]) Q' Ex s)
    (h : wpAny (model prog w) A (call (.ref f) [.ref b, a]) (fun v s' => ∃ r, v = .bool r ∧ Q (.bool r) s') Ex s) : wpAny (model prog w) A (richCompare .Eq a (.ref b)) Q Ex s := by
  have hne : (Value.type Ta != Value.ref C) = true := by
    rw [bne_iff_ne]
    exact fun z => nomatch z
  rcases hi : cmpInfo CmpOp.Eq with ⟨sym, n1, n2⟩
  have e1 : n1 = "__eq__" := by cases hi; rfl
  have e2 : n2 = "__eq__" := by cases hi; rfl
  rw [hi] at h1
  have one : wpAny (model prog w) A (tryCompare (.ref b) n2 a) (fun r s' => ∃ t, r = some (.bool t) ∧ Q (.bool t) s') Ex s := by
    rw [e2]
    unfold tryCompare
    refine wpAny_bind (PySem.W.ifBound_K X J he hf (wpAny_mono h (fun v s' hv => ?_) fun _ _ e => e))
    obtain ⟨r, rfl, q⟩ := hv
    exact wpAny_pure ⟨r, rfl, q⟩
  simp only [richCompare, hi, ha.oneThing_none]
  try with_reducible refine wpAny_holding ?_
  refine wpAny_bind (wpAny_cRoomFor hu ?_)
  refine wpAny_bind (wpAny_typeOf ha (wpAny_bind (J.type.here ?_)))
  simp only [hne, if_true]
  refine wpAny_bind ((PySem.W.looks_subIn X hsub).here ?_)
  simp only [Bool.false_eq_true, if_false, Bool.not_false, if_true]
  refine wpAny_bind (m := tryCompare a _ (.ref b)) (wpAny_tryCompare_declines ha h1 (hc1 _ ⟨rfl, ?_⟩))
  refine wpAny_bind (m := tryCompare (.ref b) _ a) (wpAny_mono one (fun r s' hr => ?_) fun _ _ e => e)
  obtain ⟨t, rfl, q⟩ := hr
  exact wpAny_pure q
theorem dec_int_eq (a : Int) (t : Tok) (l C dx : Addr) : Meets (Builtin.«int.__eq__» ⟨[.int a t, .ref l], []⟩) (fun _ R s => s.heap.get? l = some (PySem.W.instObj C dx) ∧ R (.ok (.ret Value.notImplemented)) s) := .of_wp fun prog w A R s h => by obtain ⟨hp, g, d, tk, os⟩ := s; obtain ⟨hl, h⟩ := h; wp_walk; exact ⟨_, rfl, h⟩
theorem dec_str_eq (a : Str) (t : Tok) (l C dx : Addr) : Meets (Builtin.«str.__eq__» ⟨[.str a t, .ref l], []⟩) (fun _ R s => s.heap.get? l = some (PySem.W.instObj C dx) ∧ R (.ok (.ret Value.notImplemented)) s) := .of_wp fun prog w A R s h => by obtain ⟨hp, g, d, tk, os⟩ := s; obtain ⟨hl, h⟩ := h; wp_walk; exact ⟨_, rfl, h⟩
theorem dec_none_eq (l : Addr) : Gives (Builtin.«NoneType.__eq__» ⟨[.none, .ref l], []⟩) (.val (Value.notImplemented)) := .of_wp fun M A E s Q h => by obtain ⟨hp, g, d, tk, os⟩ := s; wp_walk; exact ⟨_, rfl, h⟩
section
variable {prog : Program} {w : World} {A : Around} {Ex : Value → Shared → Prop} {s : Shared}
theorem dec_list_eq {l b : Addr} {Q : Value → Shared → Prop} (hl : s.TypeIs (.ref l) "list") (hb : PySem.W.Looks (model prog w) s.heap (isInstance (.ref b) (.type "list")) false) (q : Q .notImplemented s) : wpAny (model prog w) A (call (.builtin "list.__eq__") [.ref l, .ref b]) Q Ex s := by
  refine GQ.call_here F.slot_list_eq hl F.entry_list_eq (F.args_list_eq_2 _ _) ?_
  obtain ⟨hp, g, d, tk, os⟩ := s
  wp_walk using hb.at
  exact q
theorem dec_tuple_eq {l b : Addr} {Q : Value → Shared → Prop} (hl : s.TypeIs (.ref l) "tuple") (hb : PySem.W.Looks (model prog w) s.heap (isInstance (.ref b) (.type "tuple")) false) (q : Q .notImplemented s) : wpAny (model prog w) A (call (.builtin "tuple.__eq__") [.ref l, .ref b]) Q Ex s := by
  refine GQ.call_here F.slot_tuple_eq hl F.entry_tuple_eq (F.args_tuple_eq_2 _ _) ?_
  obtain ⟨hp, g, d, tk, os⟩ := s
  wp_walk using hb.at
  exact q
end
/-! ### an instance in a list of other things, by its own == -/
section
open PySem.SeqAt MeetsSeq MeetsSeq2 MeetsSeq3 SeqRoads2
variable {prog : Program} {w : World} {A : Around} {R : Result → Shared → Prop}
theorem contains_loopG (l : Addr) (x : Value) (N : Nat) (I : Shared → Prop)
    (hl : ∀ s, I s → ∃ (items : Array Value) (n : Nat), s.heap.get? l = some { cls := .type "list", data := .seq items n } ∧ items.size = N ∧ ∀ i (h : i < items.size), wpAny (model prog w) A.in1 (eqBool items[i] x) (fun r s' => r = false ∧ I s') (fun e s' => R (.error e) s') s)
    (fin : ∀ s, I s → R (.ok (.ret (.bool false))) s) (k : Nat) :
    ∀ i : Nat, N - i = k → i ≤ N → ∀ s, I s → wpAny (model prog w) A.in1 (Builtin.«list.__contains__.loop» ⟨[.ref l, x, rawInt i], []⟩) (GQ.FinOf prog w A R) (fun e s' => R (.error e) s') s := by
  induction k with
  | zero =>
    intro i hk hi s h
    obtain ⟨items, n, hl1, hs1, _⟩ := hl _ h
    have hR : R (.ok (.ret (.bool false))) s := fin s h
    obtain ⟨hp, g, d, tk, os⟩ := s
    wp_walk using AutoSeq1.wpAny_loadPart' hl1
    have hi1 : items[((i : Nat) : Int).toNat]? = none := by simp; omega
    rw [hi1]
    wp_walk
    exact hR
  | succ k ih =>
    intro i hk hi s h
    obtain ⟨items, n, hl1, hs1, turn⟩ := hl _ h
    have hlt : i < items.size := by omega
    have ht := turn i hlt
    obtain ⟨hp, g, d, tk, os⟩ := s
    wp_walk using AutoSeq1.wpAny_loadPart' hl1
    have hi1 : items[((i : Nat) : Int).toNat]? = some items[i] := by simp [hlt]
    have hc : ((i : Int) + 1) = ((i + 1 : Nat) : Int) := by omega
    rw [hi1]
    refine wpAny_bind (wpAny_mono ht (fun r s2 h2 => ?_) fun _ _ x => x)
    obtain ⟨hr, h2⟩ := h2
    subst hr
    have hrec := ih (i + 1) (by omega) (by omega) s2 h2
    obtain ⟨hp2, g2, d2, tk2, os2⟩ := s2
    wp_walk
    rw [hc]
    exact ⟨plainId_quiet plain_contains_loop _, codeAny_builtin entry_contains_loop (by
      rw [Around.under_plainId plain_contains_loop _]
      exact hrec)⟩
theorem list_containsG (l : Addr) (x : Value) (N : Nat) (I : Shared → Prop)
    (hl : ∀ s, I s → ∃ (items : Array Value) (n : Nat), s.heap.get? l = some { cls := .type "list", data := .seq items n } ∧ items.size = N ∧ ∀ i (h : i < items.size), wpAny (model prog w) A.in1 (eqBool items[i] x) (fun r s' => r = false ∧ I s') (fun e s' => R (.error e) s') s)
    (fin : ∀ s, I s → R (.ok (.ret (.bool false))) s) {s : Shared} (h : I s) : wpAny (model prog w) A.in1 (Builtin.«list.__contains__» ⟨[.ref l, x], []⟩) (GQ.FinOf prog w A R) (fun e s' => R (.error e) s') s := by
  have hrec := contains_loopG (A := A) (R := R) l x N I hl fin _ 0 rfl (Nat.zero_le _) s h
  obtain ⟨items, n, hl1, _, _⟩ := hl _ h
  obtain ⟨hp, g, d, tk, os⟩ := s
  wp_walk using AutoSeq1.wpAny_loadPart' hl1
  exact ⟨plainId_quiet plain_contains_loop _, codeAny_builtin entry_contains_loop (by
    rw [Around.under_plainId plain_contains_loop _]
    exact hrec)⟩
end
theorem eqBool_any {prog : Program} {w : World} {A : Around} {Ex : Value → Shared → Prop} {s : Shared} {a : Value} {b : Addr} {Q : Bool → Shared → Prop} (hne : a ≠ .ref b) (h : wpAny (model prog w) A (richCompare .Eq a (.ref b)) (fun v s' => ∃ r, v = .bool r ∧ Q r s') Ex s) : wpAny (model prog w) A (eqBool a (.ref b)) Q Ex s := by
  unfold eqBool
  refine wpAny_holding ?_
  refine wpAny_ite_split (fun hab => absurd (eq_of_beq hab) hne) (fun _ => ?_)
  cases a <;> exact wpAny_bind (wpAny_mono h (fun v s' hv => by
    obtain ⟨r, rfl, q⟩ := hv
    exact wpAny_truthy_bool q) fun _ _ x => x)
/-- another thing than an instance -/
def Oth (K : PySem.W.Frag) (H : Hp) (y : V) : Prop := (∃ i, y = .int i) ∨ (∃ z, y = .str z) ∨ y = .non ∨ (∃ p xs, y = .ref p ∧ H p = some (.tup xs)) ∨ (∃ p xs, y = .ref p ∧ H p = some (.lst xs))
structure OthC (K : PySem.W.Frag) (C f : Addr) : Prop where
  eq : PySem.W.findIn K (.ref C) "__eq__" = some (some (.ref f))
  fn : PySem.W.isFn K (.ref f) = true
  i : PySem.W.subIn K (.ref C) (.type "int") = some false
  s : PySem.W.subIn K (.ref C) (.type "str") = some false
  n : PySem.W.subIn K (.ref C) (.type "NoneType") = some false
  t : PySem.W.subIn K (.ref C) (.type "tuple") = some false
  l : PySem.W.subIn K (.ref C) (.type "list") = some false
def rInO (K : PySem.W.Frag) (C : Addr) (sp : Sp) (E : XK) : R2 := fun x y H Q => ∃ a dx fs l ys, x = .ref a ∧ y = .ref l ∧ H a = some (.ins C dx fs) ∧ H l = some (.lst ys) ∧ (∀ z ∈ ys, Oth K H z ∧ sp [.ref a, z] H (fun v H' => v = .bl false ∧ H' = H) E) ∧ Q (.bl false) H
theorem in_own (O : OthC X.K C f) (Fk : FnOk X.prog X.w X.K X.mg X.base CX k f fd ps sp) (hr : Room (k + 1) X.A) (hb : Binds X.K fd ps []) (hx : Passes CX X E) : OpR X (compareOp .In) (rInO X.K C sp E) := by
  intro pins s σ H x y v u Q I rx ry h
  obtain ⟨a, dx, fs, l, ys, rfl, rfl, ea, el, hz, q⟩ := h
  obtain rfl : v = Value.ref a := rx
  obtain rfl : u = Value.ref l := ry
  obtain ⟨z0, its0, n0, r0, e0⟩ := I.hok l _ el
  show wpAny (model X.prog X.w) X.A (do return .bool (← contains (.ref l) (.ref a))) (EP X pins σ Q) X.xe s
  have hT : s.TypeIs (.ref l) "list" := ⟨_, e0, rfl⟩
  refine wpAny_bind (wpAny_contains_slot hT F.slot_list_contains (wpAny_mono (GQ.call_here (Q := fun v s' => v = .bool false ∧ Inv X pins σ H s') F.slot_list_contains hT F.entry_list_contains (F.args_list_contains_2 _ _)
    (list_containsG l (.ref a) ys.length (fun s' => Inv X pins σ H s') (fun s' I' => ?_) (fun s' I' => ⟨rfl, I'⟩) I)) (fun v s' hv => ?_) fun _ _ e => e))
  · obtain ⟨z1, its, n, r, e⟩ := I'.hok l _ el
    refine ⟨its.toArray, n, e, by rw [List.size_toArray]; exact r.length.symm, fun i hi => ?_⟩
    have k1 : i < ys.length := by rw [r.length]; simpa using hi
    obtain ⟨u, hu, ru⟩ := r.get (List.getElem?_eq_getElem k1)
    have g1 : its[i]? = some its.toArray[i] := by
      have h1' : i < its.length := by simpa using hi
      rw [List.getElem?_eq_getElem h1'] <;> simp
    rw [g1] at hu
    rw [Option.some.inj hu]
    obtain ⟨ho, hsp⟩ := hz _ (List.getElem_mem k1)
    obtain ⟨mA, J, _⟩ := ins_get I'.hok ea
    obtain ⟨od, J, _⟩ := J.look
    have own : wpAny (model X.prog X.w) X.A.in1 (call (.ref f) [.ref a, u]) (fun v s' => ∃ r, v = .bool r ∧ ∃ t, Value.bool r = .bool t ∧ (t = false ∧ Inv X pins σ H s')) X.xe s' := by
      refine wpAny_mono (run_own1 (vs := [V.ref a, ys[i]]) Fk hr hb hx I' (.cons rfl (.cons ru .nil)) hsp) (fun v s2 hv => ?_) fun _ _ e => e
      obtain ⟨x, H2, I2, rv, ex, eH⟩ := hv
      subst ex
      subst eH
      obtain rfl : v = Value.bool false := rv
      exact ⟨false, rfl, false, rfl, rfl, I2⟩
    have hu1 : X.A.in1.units < cLine := hr.in1.units0
    rcases ho with ⟨i', ei⟩ | ⟨z', ez⟩ | en | ⟨p, xs, ep, hp⟩ | ⟨p, xs, ep, hp⟩
    · rw [ei] at ru
      obtain ⟨t, rfl⟩ := ru
      exact eqBool_any (fun z => nomatch z) (eq_right hu1 I'.kIn O.eq O.fn (typeIs_int s' i' t) J O.i F.slot_int_eq (fun Q' q' => call_meets F.slot_int_eq (typeIs_int s' i' t) F.entry_int_eq (F.args_int_eq_2 _ _) (dec_int_eq i' t a C dx) ⟨J.at_, q'⟩) own)
    · rw [ez] at ru
      obtain ⟨t, rfl⟩ := ru
      exact eqBool_any (fun z => nomatch z) (eq_right hu1 I'.kIn O.eq O.fn (typeIs_str s' z' t) J O.s F.slot_str_eq (fun Q' q' => call_meets F.slot_str_eq (typeIs_str s' z' t) F.entry_str_eq (F.args_str_eq_2 _ _) (dec_str_eq z' t a C dx) ⟨J.at_, q'⟩) own)
    · rw [en] at ru
      obtain rfl : u = Value.none := ru
      exact eqBool_any (fun z => nomatch z) (eq_right hu1 I'.kIn O.eq O.fn (typeIs_none s') J O.n F.slot_NoneType_eq (fun Q' q' => call_gives F.slot_NoneType_eq (typeIs_none s') F.entry_NoneType_eq (F.args_NoneType_eq_2 _ _) (dec_none_eq a) q') own)
    · rw [ep] at ru
      obtain rfl : u = Value.ref p := ru
      obtain ⟨its2, r2, pt, _⟩ := I'.tuple (SqT.of hp)
      obtain ⟨ot, et, ct, _⟩ := id pt
      have hTp : s'.TypeIs (.ref p) "tuple" := ⟨ot, et, ct⟩
      have below : PySem.W.Looks (model X.prog X.w) s'.heap (isInstance (.ref a) (.type "tuple")) false := J.type.andThen (PySem.W.looks_subIn I'.kIn O.t)
      refine eqBool_any (fun z => ?_) (eq_right hu1 I'.kIn O.eq O.fn hTp J O.t F.slot_tuple_eq (fun Q' q' => dec_tuple_eq hTp below q') own)
      injection z with z
      rw [z, ea] at hp
      cases hp
    · rw [ep] at ru
      obtain rfl : u = Value.ref p := ru
      obtain ⟨z2, its2, n2, r2, e2⟩ := I'.hok p _ hp
      have hTp : s'.TypeIs (.ref p) "list" := ⟨_, e2, rfl⟩
      have below : PySem.W.Looks (model X.prog X.w) s'.heap (isInstance (.ref a) (.type "list")) false := J.type.andThen (PySem.W.looks_subIn I'.kIn O.l)
      refine eqBool_any (fun z => ?_) (eq_right hu1 I'.kIn O.eq O.fn hTp J O.l F.slot_list_eq (fun Q' q' => dec_list_eq hTp below q') own)
      injection z with z
      rw [z, ea] at hp
      cases hp
  · obtain ⟨rfl, I'⟩ := hv
    exact wpAny_truthy_bool (wpAny_pure ⟨.bl false, H, I', rfl, q⟩)
/-- != of two instances -/
theorem ne_own (N : NoNe X.K C f) (F : FnOk X.prog X.w X.K X.mg X.base CX k f fd ps sp) (hr : Room (k + 1) X.A) (hb : Binds X.K fd ps []) (hx : Passes CX X E) :
    OpR X (compareOp .NotEq) (fun x y H Q => rOO C sp E x y H (fun v H' => ∃ b, v = .bl b ∧ Q (.bl (!b)) H')) := by
  intro pins s σ H x y v u Q I rx ry h
  obtain ⟨a, dx, fs, b, dy, gs, rfl, rfl, ea, eb, q⟩ := h
  obtain rfl : v = Value.ref a := rx
  obtain rfl : u = Value.ref b := ry
  obtain ⟨mA, J, _⟩ := ins_get I.hok ea
  obtain ⟨od, J, _⟩ := J.look
  obtain ⟨mB, J', _⟩ := ins_get I.hok eb
  obtain ⟨od', J', _⟩ := J'.look
  show wpAny (model X.prog X.w) X.A (richCompare .NotEq (.ref a) (.ref b)) (EP X pins σ Q) X.xe s
  refine ne_K (by have := hr.un; omega) I.kIn N J J' (wpAny_mono (run_own1 (vs := [V.ref a, V.ref b]) F hr hb hx I (.cons rfl (.cons rfl .nil)) q) (fun v s2 hv => ?_) fun _ _ e => e)
  obtain ⟨x, H2, I2, rv, t, ex, q2⟩ := hv
  subst ex
  obtain rfl : v = Value.bool t := rv
  exact ⟨t, rfl, .bl (!t), H2, I2, rfl, q2⟩
section
variable {E : L2.St → XK} {o e : Expr} {es : List Expr} {m : Str} {pos apos : Pos} {ta : TE} {t : TA}
/-- o.m(e, ..), what is let out wished for at the caller's slots -/
def tMethE (C : Addr) (m : Str) (sp : Sp) (E : L2.St → XK) (ta : TE) (t : TA) : TE := fun σ H Q => ta σ H fun x H1 => ∃ a dx fs, x = .ref a ∧ H1 a = some (.ins C dx fs) ∧ fs.lookup m = none ∧ t σ H1 fun vs H2 => sp (x :: vs) H2 Q (E σ)
theorem pe_methE {pl : Sem Bool} (he : PE X o ta) (c : Cls X.K C) (hm : Meth X.K C m f) (F : FnOk X.prog X.w X.K X.mg X.base CX k f fd ps sp) (hr : Room k X.A) (hb : Binds X.K fd ps []) (hx : ∀ σ, PassesAt CX X σ (E σ)) (ha : PA X (e :: es) t)
    (hst : starEach (e :: es) X.env = (false, eval e X.env) :: starEach es X.env := by rfl) (hpl : (backTo pos (starEach es X.env)).any (·.1) = false := by rfl)
    (ht : eval (.Call (.Attribute o m apos) (e :: es) [] pos) X.env = (do
      let ov ← eval o X.env
      standAt apos.atName
      let (f, first) ← holding [ov] (getMethod ov m pl)
      callWith pos f first (backTo pos (starEach (e :: es) X.env)) (backToKw pos (keywordEach [] X.env))) := by rfl) :
    PE X (.Call (.Attribute o m apos) (e :: es) [] pos) (tMethE C m sp E ta t) := by
  refine ⟨fun pins s σ H Q I h => ?_⟩
  refine PySem.W.methodCall_KW (pl := pl) (thn (he.run pins s σ H _ I h) fun u s1 ⟨x, H1, I1, rx, a, dx, fs, ex, ea, l, q⟩ => ?_) ht
  subst ex
  obtain rfl : u = Value.ref a := rx
  refine getmeth_ok I1 ea c hm l ?_
  refine PySem.W.callWith_K (first := [.ref a]) (h₀ := X.base) I.ok.mod.kin hm.kp (thn (ha.run pos pins s1 σ H1 _ I1 q) fun us s2 ⟨vs, H2, I2, r, q2⟩ => ⟨I2.kIn, ?_⟩) hst hpl
  exact run_fnS (us := .ref a :: us) (vs := .ref a :: vs) F hr hb (hx σ) I2 (.cons rfl r) q2
end
/-- the receiver by place, the other by its name -/
def kSelf {α : Type} : List α → List α → List α
  | [u], ws => u :: ws
  | _, _ => []
theorem kbinds_self {K : PySem.W.Frag} {fd : FuncData} {p1 p2 k : Str} (h : ∀ (s : Shared) (u w : Value), BindsTo s fd ⟨[u], [(k, w)]⟩ [(p1, u), (p2, w)]) : KBinds K fd [p1, p2] [k] kSelf kSelf where
  to := fun s us ws _ hl => match us, ws, hl with
    | [u], [w], _ => h s u w
    | [], _, hl => nomatch hl
    | [_], [], hl => nomatch hl
    | [_], _ :: _ :: _, hl => by simp [kSelf] at hl
    | _ :: _ :: _, _, hl => nomatch hl
  rel := fun r rz => by
    cases r with
    | nil => exact .nil
    | cons a r =>
      cases r with
      | nil => exact .cons a rz
      | cons => exact .nil
end
end My

/-! My own rule: the own == of two instances within an except suite. -/
namespace My
open PySem PySem.Spec PyProof.Rows L2
/-- a def that may be called while an error is handled: the error stands at p, out of reach -/
structure FnP (P : Program) (w : World) (K : PySem.W.Frag) (mg : Str → Option Value) (base : Heap) (k : Nat) (f : Addr) (fd : FuncData) (ps : List Str) (sp : Sp) : Prop where
  len : ∀ vs H Q E, sp vs H Q E → vs.length = ps.length
  run : ∀ (A : Around) (outer : List Env) (s : Shared) (H : Hp) (args : Args) (us : List Value) (vs : List V) (Q : VK) (E : XK) (p : Addr × Obj), L2H.RoomH k A → L2H.PinOk outer H s p → Env0 P w K mg base A outer s H → BindsTo s fd args (ps.zip us) → Vals vs us → sp vs H Q E →
    codeAny (model P w) A (.call (.ref f) args) (CR CX0 outer P w H s Q E) s
theorem fnP_of {P : Program} {w : World} {K : PySem.W.Frag} {mg : Str → Option Value} {base : Heap} {x qual : Str} {st : Stmt} {f : Addr} {fd : FuncData} {N ps : List Str} {k : Nat} {sp : Sp} (F : Fun K x qual st f fd) (S : FnScope N ps (defScope st)) (len : ∀ vs H Q E, sp vs H Q E → vs.length = ps.length)
    (hbody : ∀ (cdv : Value) (A : Around) (outer : List Env) (s : Shared) (H : Hp) (vs : List V) (Q : VK) (E : XK) (p : Addr × Obj), sp vs H Q E →
      ∃ t, PSs (L2H.cxH CX0 P w K mg base N qual (defScope st) f cdv A outer s H E p) (defBody st) t ∧ t { nx := fun _ H' => Q .non H', rt := Q } (L2.start N vs) H) : FnP P w K mg base (k + 1) f fd ps sp := by
  obtain ⟨oc, od, kV, doc, pm, an, cdv, ct, osl, rfl, lk, hcd⟩ := F.ex
  refine ⟨len, fun A outer s H args us vs Q E p hr hpin e0 hb r hsp => ?_⟩
  have up : ∀ b o, base.get? b = some o → s.heap.get? b = some o := fun b o e => (e0.bs b o e).1
  refine codeAny_call_function hr.depth (e0.mod.kin.keeps up _ _ lk) rfl S.co S.gen rfl (PySem.W.codeRec_of (e0.mod.kin.keeps up) hcd) (hb _ _ _ _ ?_)
  refine wpAny_newFunctionEnv_cells S.kind (fun q hq => (S.par q.1 (List.of_mem_zip hq).1).elim .inl fun c => .inr ⟨c, PySem.W.cellsFrom_some _ _ _ (.inl c)⟩) fun env he s1 y => ?_
  subst he
  refine ⟨(e0.mod.nolimit.keeps up).keeps y.toInCall.keep, codeAny_func ?_⟩
  obtain ⟨t, ht, hq⟩ := hbody cdv A outer s H vs Q E p hsp
  refine wpAny_mono (ht.run [] s1 (L2.start N vs) H _ (L2H.inv_startH S hpin e0 (len _ _ _ _ hsp) r y) hq) (fun fl s' hs => ?_) fun e s' hs => hs
  cases fl with
  | ret u =>
    obtain ⟨v, σ', H', J, rv, q⟩ := hs
    exact ⟨v, H', J.os, J.bare, J.base, J.hok, rv, q⟩
  | next =>
    obtain ⟨σ', H', J, q⟩ := hs
    exact ⟨.non, H', J.os, J.bare, J.base, J.hok, rfl, q⟩
  | brk => exact hs.elim fun _ h => h.elim fun _ h => False.elim h.2
  | cont => exact hs.elim fun _ h => h.elim fun _ h => False.elim h.2
section
variable {X : Cx} {k : Nat} {C f : Addr} {fd : FuncData} {ps : List Str} {sp : Sp} {E : XK} {p : Addr × Obj}
theorem cmp_ownP (hs : PySem.W.findIn X.K (.ref C) "__eq__" = some (some (.ref f))) (hf : PySem.W.isFn X.K (.ref f) = true) (F : FnP X.prog X.w X.K X.mg X.base k f fd ps sp) (hr : L2H.RoomH k X.A) (hp : p ∈ X.pn) (hb : Binds X.K fd ps []) : OpR X (compareOp .Eq) (rOO C sp E) := by
  intro pins s σ H x y v u Q I rx ry h
  obtain ⟨a, dx, fs, b, dy, gs, rfl, rfl, ea, eb, q⟩ := h
  obtain rfl : v = Value.ref a := rx
  obtain rfl : u = Value.ref b := ry
  obtain ⟨mA, J, _⟩ := ins_get I.hok ea
  obtain ⟨od, J, _⟩ := J.look
  obtain ⟨mB, J', _⟩ := ins_get I.hok eb
  obtain ⟨od', J', _⟩ := J'.look
  obtain ⟨m, hF⟩ := I.fr
  have hl : ([Value.ref a, Value.ref b] ++ []).length = ps.length := by rw [← F.len _ _ _ _ q]; rfl
  have b2 := hb s [.ref a, .ref b] I.kIn hl
  have P1 := I.pin p (List.mem_append_left _ hp)
  have hpin : L2H.PinOk X.stack H s p := ⟨P1.1, P1.2.1, fun hm => (List.mem_cons.mp (I.stkSub p.1 hm)).elim P1.2.2.1 P1.2.2.2.1, P1.2.2.2.2⟩
  show wpAny (model X.prog X.w) X.A (richCompare .Eq (.ref a) (.ref b)) (EP X pins σ Q) X.xe s
  refine PySem.W.cmp_K (op := .Eq) (tb := .ref C) (by have := hr.un; omega) hF I.ok.mod.kin J J'.type (by simp [PySem.W.notFirst]) hs hf ?_
  refine wpAny_call (codeAny_mono (F.run X.A X.stack s H ⟨[.ref a, .ref b], []⟩ [.ref a, .ref b] [.ref a, .ref b] Q E p hr hpin I.env0 b2 (.cons rfl (.cons rfl .nil)) q) fun r s' hq => ?_)
  cases r with
  | error e => exact hq.elim
  | ok fl =>
    cases fl with
    | ret w => exact back_of (I.after hq)
    | next => exact False.elim hq
    | brk => exact False.elim hq
    | cont => exact False.elim hq
end
end My

/-! My own rules: a text times a number; a class method's call that raises, at the caller's slots. -/
namespace My
open PySem PySem.Spec PyProof.Rows L2
section
variable {X : Cx}
/-- z * k, only the length is told -/
def rRepS : R2 := fun x y H Q => ∃ (z : Str) (k : Int), x = .str z ∧ y = .int k ∧ 2 ≤ k ∧ k < 2 ^ 30 ∧ 1 ≤ z.length ∧ z.length * k.toNat ≤ sizeLine ∧ ∀ u : Str, u.length = k.toNat * z.length → (∀ c ∈ u.cps.toList, c ∈ z.cps.toList) → Q (.str u) H
theorem rep_size (x : Array Nat) : ∀ (n : Nat) (a : Array Nat), ((List.replicate n x).foldl (· ++ ·) a).size = a.size + n * x.size
  | 0, a => by simp
  | n + 1, a => by
    show ((List.replicate n x).foldl (· ++ ·) (a ++ x)).size = _
    rw [rep_size x n (a ++ x), Array.size_append, Nat.add_mul]
    omega
theorem rep_mem (x : Array Nat) : ∀ (n : Nat) (a : Array Nat) (c : Nat), c ∈ (List.replicate n x).foldl (· ++ ·) a → c ∈ a ∨ c ∈ x
  | 0, a, c, h => .inl h
  | n + 1, a, c, h => by
    rcases rep_mem x n (a ++ x) c h with h | h
    · exact Array.mem_append.mp h
    · exact .inr h
theorem op_repS : OpR X (binaryOp .Mult) rRepS := by
  intro pins s σ H x y v u Q I rx ry h
  obtain ⟨z, k, rfl, rfl, h2, h30, h1, hz, q⟩ := h
  obtain ⟨t, rfl⟩ := rx
  obtain ⟨t', rfl⟩ := ry
  have hl : Builtin.Str.tooLong (z.length * k.toNat) = false := decide_eq_false (by omega)
  have hs : sizeLine = 2 ^ 24 := rfl
  have hb : ¬ ((z.length : Int) > (2 ^ 63 - 1) / k) := by
    have e1 : z.length ≤ z.length * k.toNat := Nat.le_mul_of_pos_right _ (by omega)
    have e2 : (2 ^ 24 : Int) ≤ (2 ^ 63 - 1) / k := by
      rw [Int.le_ediv_iff_mul_le (by omega)]
      omega
    omega
  refine P.mul_str (by rw [decide_eq_false (by omega), decide_eq_false (by omega)]; rfl) (fun _ _ => hb) (fun _ _ => hl) ?_
  rw [if_neg (by omega), if_neg (by
    have a1 : (k == 1) = false := by simp; omega
    have a2 : (z.length == 0) = false := by simp; omega
    rw [a1, a2]
    exact Bool.false_ne_true)]
  have e : (⟨(List.replicate k.toNat z.cps).foldl (· ++ ·) #[]⟩ : Str).length = k.toNat * z.length := by
    show ((List.replicate k.toNat z.cps).foldl (· ++ ·) #[]).size = _
    rw [rep_size]
    show 0 + _ = _
    rw [Nat.zero_add]
    rfl
  refine ⟨?_, .str _, H, I.tok _, ⟨_, rfl⟩, q _ e fun c hc => ?_⟩
  rotate_left
  · rcases rep_mem z.cps k.toNat #[] c (Array.mem_toList_iff.mp hc) with h | h
    · exact absurd h (by simp)
    · exact Array.mem_toList_iff.mpr h
  show (⟨(List.replicate k.toNat z.cps).foldl (· ++ ·) #[]⟩ : Str).length ≤ sizeLine
  rw [e, Nat.mul_comm]
  exact hz
end
section
variable {X : Cx} {CX : CXT} {k : Nat} {C p g : Addr} {mc : Value} {fd : FuncData} {ps : List Str} {sp : Sp} {E : L2.St → XK} {o e : Expr} {es : List Expr} {m : Str} {pos apos : Pos} {ta : TE} {t : TA} {pl : Sem Bool}
def tCMethE (C : Addr) (sp : Sp) (E : L2.St → XK) (ta : TE) (t : TA) : TE := fun σ H Q => ta σ H fun x H1 => x = .ref C ∧ t σ H1 fun vs H2 => sp (.ref C :: vs) H2 Q (E σ)
theorem pe_cmethE (he : PE X o ta) (r : ClX.CRead X.K C mc) (c : ClX.CMet X.K C mc m p g) (F : FnOk X.prog X.w X.K X.mg X.base CX k g fd ps sp) (hr : Room k X.A) (hb : Binds X.K fd ps []) (hx : ∀ σ, PassesAt CX X σ (E σ)) (ha : PA X (e :: es) t)
    (hst : starEach (e :: es) X.env = (false, eval e X.env) :: starEach es X.env := by rfl) (hpl : (backTo pos (starEach es X.env)).any (·.1) = false := by rfl)
    (ht : eval (.Call (.Attribute o m apos) (e :: es) [] pos) X.env = (do
      let ov ← eval o X.env
      standAt apos.atName
      let (f, first) ← holding [ov] (getMethod ov m pl)
      callWith pos f first (backTo pos (starEach (e :: es) X.env)) (backToKw pos (keywordEach [] X.env))) := by rfl) :
    PE X (.Call (.Attribute o m apos) (e :: es) [] pos) (tCMethE C sp E ta t) := by
  refine ⟨fun pins s σ H Q I h => ?_⟩
  refine PySem.W.methodCall_KW (pl := pl) (thn (he.run pins s σ H _ I h) fun u s1 ⟨x, H1, I1, rx, ex, q⟩ => ?_) ht
  subst ex
  obtain rfl : u = Value.ref C := rx
  refine ClX.getmethcm_ok I1 r c fun s2 I2 => ?_
  refine ClX.callwith_cm I2 (ClX.base_none I1 (Nat.le_refl _)) c.fi (thn (ha.run pos _ s2 σ H1 _ I2 q) fun us s3 ⟨vs, H2, I3, rv, q2⟩ => ⟨⟨ClX.pin_at I3, I3.kIn⟩, ?_⟩) hst hpl
  suffices z : wpAny (model X.prog X.w) X.A (call (.ref s1.heap.objs.size) us) (EP X ((s1.heap.objs.size, PySem.W.methodObj (.ref g) (.ref C)) :: pins) σ Q) X.xe s3 from thn z fun _ _ y => ClX.unpinE y
  refine wpAny_call (PySem.W.method_call (ClX.pin_at I3) ?_)
  have r2 : Vals (V.ref C :: vs) (Value.ref C :: us) := .cons rfl rv
  have hl : (Value.ref C :: us).length = ps.length := by rw [← r2.length]; exact F.len _ _ _ _ q2
  have b := hb s3 (Value.ref C :: us) I3.kIn (by rw [List.append_nil]; exact hl)
  rw [List.append_nil] at b
  refine codeAny_mono (F.run X.A X.stack s3 H2 ⟨Value.ref C :: us, []⟩ (Value.ref C :: us) (V.ref C :: vs) Q (E σ) hr I3.env0 b r2 q2) fun r s' hq => ?_
  cases r with
  | error er => exact hx σ _ H2 s3 er s' I3 hq
  | ok fl =>
    cases fl with
    | ret u => exact I3.after hq
    | next => exact False.elim hq
    | brk => exact False.elim hq
    | cont => exact False.elim hq
end
theorem kit_vty {K : PySem.W.Frag} {C : Addr} {T : String} {b : Bool} (h : PySem.W.mroIn K C (.type T) = some b) (hm : PySem.W.kitMeta T = true) : PySem.W.kitOne K (.ref C) (.type T) = some b := by
  unfold PySem.W.kitOne
  rw [if_neg (by simp)]
  show (if PySem.W.kitMeta T = true then PySem.W.subIn K (.ref C) (.type T) else none) = some b
  rw [if_pos hm]
  exact h
end My

set_option maxHeartbeats 4000000
/-! My own rules: errors held as values: made, asked for their class, their attributes read. -/
namespace PySem
namespace HandSPX2
open PySem.W PySem.Calls PyProof.Rows PySem.HandSPX
section
variable {M : Model} {A : Around} {E : Value → Shared → Prop} {h : Heap} {g : Array GenState} {d : Drawn} {t : Nat} {os : OsState}
variable {nm q : Str} {C N : Addr} {bs bm bmB : List Value} {hdct : Bool} {sn : List Str} {sub : List Value} {ab : Bool} {col : Option Bool} {dd : Option Addr} {k0 k1 k2 k3 k5 : Option Value} {B newId initId : String}
theorem check_new_ownK (F : ExcBaseFacts B newId initId bmB) (hT : ∀ X : String, bm.contains (.type X) = bmB.contains (.type X)) {rest : List Value} {kws : List (Str × Value)} {Q : Unit → Shared → Prop}
    (hC : h.get? C = some (excClassObj nm q C N bs bm hdct sn sub ab col dd k0 k1 k2 k3 k5 newId)) (hq : Q () ⟨h, g, d, t, os⟩) : wpAny M A (checkBuiltinCall newId ⟨.ref C :: rest, kws⟩) Q E ⟨h, g, d, t, os⟩ := by
  have hcont : (Value.ref C :: bm).contains (.type B) = true := by rw [List.contains_cons, hT, F.hasB, Bool.or_true]
  have hstar := F.noStar
  simp only [checkBuiltinCall, F.newKind, F.newSplit, F.newRow]
  repeat (first | refine wpAny_loadPart_at hC ?_ | (refine wpAny_isSubtype_exc hC ?_; rw [hcont]) | refine wpAny_staticBase_exc hC ?_ | refine wpAny_madeBy_exc hC ?_ | simp only [bne_self_eq_false, Bool.false_eq_true, if_false] | wp_step)
  exact hq
end
section
variable {prog : Program} {w : World} {A : Around} {E : Value → Shared → Prop} {R : Result → Shared → Prop} {h : Heap} {g : Array GenState} {d : Drawn} {t : Nat} {os : OsState}
variable {nm q : Str} {C N : Addr} {bs bm bmB : List Value} {hdct : Bool} {sn : List Str} {sub : List Value} {ab : Bool} {col : Option Bool} {dd : Option Addr} {k0 k1 k2 k3 k5 : Option Value} {B newId initId : String}
theorem new_ownK (F : ExcBaseFacts B newId initId bmB) (hT : ∀ X : String, bm.contains (.type X) = bmB.contains (.type X)) {rest : List Value} {kws : List (Str × Value)}
    (hC : h.get? C = some (excClassObj nm q C N bs bm hdct sn sub ab col dd k0 k1 k2 k3 k5 newId))
    (hq : R (.ok (.ret (.ref (h.objs.size + 1)))) ⟨(h.push { cls := .type "tuple", data := .seq rest.toArray }).push
      { cls := .ref C, data := .fields #[.ref h.objs.size, .none, .none, .none, .bool false, .none] }, g, d, t, os⟩) (hrest : rest.length ≤ sizeLine) :
    codeAny (model prog w) A (.builtin newId ⟨.ref C :: rest, kws⟩) R ⟨h, g, d, t, os⟩ := by
  have hends := F.ends
  have hcB : (Value.ref C :: bm).contains (.type B) = true := by rw [List.contains_cons, hT, F.hasB, Bool.or_true]
  have hcA : (Value.ref C :: bm).contains (.type "AttributeError") = false := by rw [List.contains_cons, hT, F.noAttr]; rfl
  have hcN : (Value.ref C :: bm).contains (.type "NameError") = false := by rw [List.contains_cons, hT, F.noName]; rfl
  refine codeAny_builtinAt F.entry ?_
  unfold Builtin.«BaseException.__new__»
  refine wpAt_bind ?_
  show wpAt _ _ _ (stack >>= _) _ _ _
  refine wpAt_bind (wpAt_stack fun p below => wpAt_of_wpAny ?_)
  wp_walk
  refine wpAt_of_wpAny ?_
  rw [F.owner]
  repeat (first | with_reducible refine wpAny_madeHere_exc F.canon hC ?_ | with_reducible refine wpAny_loadPart_at hC ?_ | (with_reducible refine wpAny_isSubtype_exc hC ?_; first | rw [hcB] | rw [hcA] | rw [hcN]) | wp_step)
  show R _ _
  rw [Heap.size_push]
  exact hq
theorem type_call_ownK (F : ExcBaseFacts B newId initId bmB) (hT : ∀ X : String, bm.contains (.type X) = bmB.contains (.type X)) {rest : List Value} {kws : List (Str × Value)} {fI : Addr} {Q : Fin → Shared → Prop}
    (hC : h.get? C = some (excClassObj nm q C N bs bm hdct sn sub ab col dd k0 k1 k2 k3 k5 newId))
    (hi : W.Looks (model prog w) h (typeLookup (.ref C) "__init__") (some (.ref fI))) (hb : ∀ self, W.Looks (model prog w) h (bindSpecial (.ref fI) self) (.ref fI, [self])) (hrest : rest.length ≤ sizeLine)
    (hq : codeAny (model prog w) A (.call (.ref fI) ⟨.ref (h.objs.size + 1) :: rest, kws⟩)
      (fun r s' => match r with | .ok (.ret v) => v = .none ∧ Q (.done (.ret (.ref (h.objs.size + 1)))) s' | .ok _ => False | .error e => E e s')
      ⟨(h.push (W.kdv_tup rest)).push (excO C h.objs.size), g, d, t, os⟩) :
    wpAny (model prog w) A (Builtin.«type.__call__» ⟨.ref C :: rest, kws⟩) Q E ⟨h, g, d, t, os⟩ := by
  repeat (first | with_reducible refine wpAny_loadPart_at hC ?_ | with_reducible refine wpAny_madeBy_exc hC ?_ | wp_step)
  refine codeAny_call_builtin_code (Code.quiet_builtin _ F.quiet) (check_new_ownK F hT hC ?_)
  refine new_ownK F hT hC ?_ hrest
  show wpAny _ _ _ _ _ _
  have k : ∀ b o, h.get? b = some o → ((h.push (W.kdv_tup rest)).push (excO C h.objs.size)).get? b = some o := fun b o e => Heap.get?_push_of_some _ (Heap.get?_push_of_some _ e)
  have hC₁ := k _ _ hC
  have hget : ((h.push (W.kdv_tup rest)).push (excO C h.objs.size)).get? (h.objs.size + 1) = some (excO C h.objs.size) := by heap_get
  have hcC : (Value.ref C :: bm).contains (.ref C) = true := by simp
  have i1 := hi.keeps k
  have b1 := (hb (.ref (h.objs.size + 1))).keeps k
  unfold isInstance
  repeat (first | with_reducible refine wpAny_loadPart_at hget ?_ | (with_reducible refine wpAny_isSubtype_exc hC₁ ?_; rw [hcC]) | wp_step)
  show wpAny _ _ (typeLookup (.ref C) _) _ _ _
  refine i1.at ?_
  refine wpAny_holding (wpAny_bind (b1.at ?_))
  refine wpAny_bind (wpAny_call (codeAny_mono hq fun r s' z => ?_))
  rcases r with e | (v | _ | _ | _) <;> first | exact z | exact z.elim | skip
  obtain ⟨rfl, z⟩ := z
  first
    | exact wpAny_pure (wpAny_pure z)
    | (wp_walk; exact z)
theorem call_ownK (F : ExcBaseFacts B newId initId bmB) (hT : ∀ X : String, bm.contains (.type X) = bmB.contains (.type X)) {rest : List Value} {kws : List (Str × Value)} {fI : Addr}
    (hC : h.get? C = some (excClassObj nm q C N bs bm hdct sn sub ab col dd k0 k1 k2 k3 k5 newId))
    (hi : W.Looks (model prog w) h (typeLookup (.ref C) "__init__") (some (.ref fI))) (hb : ∀ self, W.Looks (model prog w) h (bindSpecial (.ref fI) self) (.ref fI, [self])) (hrest : rest.length ≤ sizeLine)
    (hq : codeAny (model prog w) (A.under (.builtin "type.__call__" ⟨.ref C :: rest, kws⟩)) (.call (.ref fI) ⟨.ref (h.objs.size + 1) :: rest, kws⟩) (W.InitBack (h.objs.size + 1) R)
      ⟨(h.push (W.kdv_tup rest)).push (excO C h.objs.size), g, d, t, os⟩) :
    codeAny (model prog w) A (.call (.ref C) ⟨rest, kws⟩) R ⟨h, g, d, t, os⟩ := by
  have f1 := tc_lookup
  have f2 := tc_bind (.ref C)
  have hTy : (⟨h, g, d, t, os⟩ : Shared).TypeIs (.ref C) "type" := ⟨_, hC, rfl⟩
  refine codeAny_of_tree ?_
  show wpAny _ _ (callAny (.ref C) _) _ _ _
  repeat (any_goals (first | assumption | with_reducible refine wpAny_loadPart_at hC ?_ | wp_step))
  refine ⟨rfl, ?_⟩
  refine codeAny_call_builtin_at (Code.quiet_builtin _ (by decide +kernel)) entry_typeCall (wpAny_check_type_call_sub hC (type_call_ownK F hT hC hi hb hrest ?_))
  refine codeAny_mono hq fun r s' z => ?_
  rcases r with e | (v | _ | _ | _) <;> exact z
end
end HandSPX2
end PySem
namespace My
open PySem PySem.Spec PyProof.Rows L2
/-- an error as a value: with its dict, or without one -/
def ErrV (H : Hp) (a D : Addr) : Prop := (∃ dx fs, H a = some (exo a D (some dx)) ∧ H dx = some (exd dx fs)) ∨ H a = some (ExO (.ref D) a)
theorem ErrV.on {H H' : Hp} {a D : Addr} (e : ErrV H a D) (s : Same H H') : ErrV H' a D := by
  rcases e with ⟨dx, fs, h1, h2⟩ | h
  · exact .inl ⟨dx, fs, s _ _ h1, s _ _ h2⟩
  · exact .inr (s _ _ h)
/-- an attribute of it -/
def ErrF (H : Hp) (a D : Addr) (n : Str) (v : V) : Prop := ∃ dx fs, H a = some (exo a D (some dx)) ∧ H dx = some (exd dx fs) ∧ fs.lookup n = some v
theorem ErrF.on {H H' : Hp} {a D : Addr} {n : Str} {v : V} (e : ErrF H a D n v) (s : Same H H') : ErrF H' a D n v := let ⟨dx, fs, h1, h2, h3⟩ := e; ⟨dx, fs, s _ _ h1, s _ _ h2, h3⟩
theorem ErrF.err {H : Hp} {a D : Addr} {n : Str} {v : V} (e : ErrF H a D n v) : ErrV H a D := let ⟨dx, fs, h1, h2, _⟩ := e; .inl ⟨dx, fs, h1, h2⟩
def rIsV (K : PySem.W.Frag) : List V → Hp → VK → Prop := fun xs H Q => ∃ (a D : Addr) (c : V) (cv : Value) (b : Bool), xs = [.ref a, c] ∧ ExcC K D ∧ ErrV H a D ∧ ClsV c cv ∧ PySem.W.kitOne K (.ref D) cv = some b ∧ Q (.bl b) H
theorem call_isV {X : Cx} : CallR X (.builtin "isinstance") (rIsV X.K) := by
  intro pins s σ H xs us Q I r h
  obtain ⟨a, D, c, cv, b, rfl, C, he, hcv, e, q⟩ := h
  obtain ⟨u, w', rfl, ru, rw'⟩ := vals2 r
  obtain rfl : u = Value.ref a := ru
  obtain rfl := hcv.eq rw'
  rcases he with ⟨dx, fs, h1, h2⟩ | h1
  · obtain ⟨t1, hget⟩ := exo_at I.hok h1
    obtain ⟨mA, hns, hrel⟩ := exd_at I.hok h2
    obtain ⟨od, ho, hl⟩ := lookIn_ns hns
    have J : PySem.W.InstAt s.heap a { cls := .ref D, dict := some dx, data := .fields #[.ref t1, .none, .none, .none, .bool false, .none] } D (some od) := ⟨hget, rfl, rfl, ho⟩
    exact PySem.W.kia_one (kit_err C) I.kIn J e (fun z => nomatch z) fun tk => ⟨.bl b, H, I.kept (t' := tk) fun _ _ z => z, rfl, q⟩
  · obtain ⟨⟨oe, vs, hget, hz, hv, _⟩, _, _⟩ := I.hok a _ h1
    have J : PySem.W.InstAt s.heap a oe D none := by
      obtain ⟨oc, od, oda, osl⟩ := oe
      obtain ⟨h1, h2⟩ := hz
      dsimp only at h1 h2 hv
      subst h1 h2 hv
      exact ⟨hget, rfl, rfl, trivial⟩
    exact PySem.W.kia_one (PySem.W.handS_kitx_exc C.hg C.hk C.hs C.hd C.ha C.hn C.ht C.hm) I.kIn J e (fun z => nomatch z) fun tk => ⟨.bl b, H, I.kept (t' := tk) fun _ _ z => z, rfl, q⟩
/-- o.f of an error held as a value -/
def tXv (D : Addr) (n : Str) (te : TE) : TE := fun σ H Q => te σ H fun x H1 => ∃ (a : Addr) (v : V), x = .ref a ∧ ErrF H1 a D n v ∧ Q v H1
theorem pe_xv {X : Cx} {D : Addr} {e : Expr} {te : TE} {pos : Pos} {n : Str} (T : XfC X.K D) (hno : PySem.W.findIn X.K (.ref D) n = some none) (he : PE X e te) (hb : attributeBase e n X.env (eval e X.env) = eval e X.env := by rfl) :
    PE X (.Attribute e n pos) (tXv D n te) := by
  refine ⟨fun pins s σ H Q I h => ?_⟩
  refine attr_of hb (thn (he.run pins s σ H _ I h) fun u s1 hh => ?_)
  obtain ⟨x, H1, I1, rx, a, v, ex, ⟨dd, fs, ea, ed, l⟩, q⟩ := hh
  subst ex
  obtain rfl : u = Value.ref a := rx
  obtain ⟨t1, hget⟩ := exo_at I1.hok ea
  obtain ⟨mA, hns, hr⟩ := exd_at I1.hok ed
  obtain ⟨od, ho, hl⟩ := lookIn_ns hns
  obtain ⟨u, hu, ru⟩ := RelO.some_of (v := v) (o := mA n) (by rw [← l]; exact hr n)
  have J : PySem.W.InstAt s1.heap a { cls := .ref D, dict := some dd, data := .fields #[.ref t1, .none, .none, .none, .bool false, .none] } D (some od) := ⟨hget, rfl, rfl, ho⟩
  exact HandSPX.exc_get I1.kIn J T.ga T.gg T.exC (PySem.W.findObj_own T.hdC hno rfl (by rw [hl, hu])) (handed_of ru) ⟨v, H1, I1.tok _, ru, q⟩
/-- C(e, ..), an own error class with an own __init__, as a value -/
structure mkO (C : Addr) (sp : Sp) (vs : List V) (H : Hp) (Q : VK) : Prop where
  len : vs.length ≤ 1000
  k : ∀ a, H a = none → sp (.ref a :: vs) (upd H a (exo a C none)) (fun v H2 => v = .non ∧ Q (.ref a) H2) E0
def tMkV (C : Addr) (sp : Sp) (ta : TA) : TE := fun σ H Q => ta σ H fun vs H1 => mkO C sp vs H1 Q
section
variable {X : Cx} {CX : CXT} {x : Str} {C fI : Addr} {k : Nat} {fd : FuncData} {ps ks : List Str} {sp : Sp} {p pos : Pos} {e : Expr} {es : List Expr} {ta tk : TA} {kws : List Keyword}
theorem run_oexK {pins : List (Addr × Obj)} {σ : L2.St} {H1 : Hp} {s1 : Shared} {Q : VK} {us : List Value} {kws0 : List (Str × Value)} {us2 : List Value} {vs : List V} (T : OexC X.K C) (iC : PySem.W.findIn X.K (.ref C) "__init__" = some (some (.ref fI))) (tI : PySem.W.typeIn X.K (.ref fI) = some (.type "function"))
    (F1 : FnOk X.prog X.w X.K X.mg X.base CX k fI fd ps sp) (hr : Room (k + 1) X.A) (hb : ∀ (s : Shared) (u : Value), X.K.In s.heap → BindsTo s fd ⟨u :: us, kws0⟩ (ps.zip (u :: us2))) (hx : Passes CX X E0) (I1 : Inv X pins σ H1 s1) (r1 : Vals vs us2) (hz : us.length ≤ 1000)
    (q1 : ∀ a, H1 a = none → sp (.ref a :: vs) (upd H1 a (exo a C none)) (fun v H2 => v = .non ∧ Q (.ref a) H2) E0) : wpAny (model X.prog X.w) X.A (call (.ref C) us kws0) (EP X pins σ Q) X.xe s1 := by
  obtain ⟨nm, q, N, bs, bm, sn, sub, ab, col, dd, k0, k1, k2, k3, k5, hC, hbm⟩ := T.cls
  obtain ⟨hp, g, dr, tk, os⟩ := s1
  have hsz : hp.objs.size ≤ hp.objs.size + 1 := Nat.le_succ _
  have hn : H1 (hp.objs.size + 1) = none := I1.hok.fresh hsz
  have hq := q1 (hp.objs.size + 1) hn
  have kk : ∀ b o, hp.get? b = some o → ((hp.push (PySem.W.kdv_tup us)).push (PySem.HandSPX.excO C hp.objs.size)).get? b = some o := fun b o e => Heap.get?_push_of_some _ (Heap.get?_push_of_some _ e)
  have hget : ((hp.push (PySem.W.kdv_tup us)).push (PySem.HandSPX.excO C hp.objs.size)).get? (hp.objs.size + 1) = some (PySem.HandSPX.excO C hp.objs.size) := by heap_get
  have I2 : Inv X pins σ (upd H1 (hp.objs.size + 1) (exo (hp.objs.size + 1) C none)) ⟨(hp.push (PySem.W.kdv_tup us)).push (PySem.HandSPX.excO C hp.objs.size), g, dr, tk, os⟩ :=
    I1.laid (t' := tk) (a := hp.objs.size + 1) (o := exo (hp.objs.size + 1) C none) (h' := (hp.push (PySem.W.kdv_tup us)).push (PySem.HandSPX.excO C hp.objs.size)) kk hsz (exo_ok hget)
  have r2 : Vals (V.ref (hp.objs.size + 1) :: vs) (Value.ref (hp.objs.size + 1) :: us2) := .cons rfl r1
  have b := hb ⟨(hp.push (PySem.W.kdv_tup us)).push (PySem.HandSPX.excO C hp.objs.size), g, dr, tk, os⟩ (Value.ref (hp.objs.size + 1)) I2.kIn
  have hus : us.length ≤ sizeLine := by
    rw [sizeLine_eq]
    omega
  refine wpAny_call (PySem.HandSPX2.call_ownK F.excBase_ValueError (fun Y => PySem.HandSPX.refsVE_contains Y bm hbm) (I1.kIn _ _ hC) (PySem.W.looks_findIn I1.kIn iC) (fun self => PySem.W.bind_fn I1.kIn self tI) hus
    (codeAny_mono (F1.run _ X.stack _ _ ⟨Value.ref (hp.objs.size + 1) :: us, kws0⟩ (Value.ref (hp.objs.size + 1) :: us2) _ _ E0 (hr.make C us kws0) (I2.env0.make C us kws0) b r2 hq) fun r s' hq' => ?_))
  cases r with
  | error er => exact hx pins σ _ _ er s' I2 hq'
  | ok fl =>
    cases fl with
    | ret u =>
      obtain ⟨v, H2, os2, bare2, un2, hok2, rv, ev, q2⟩ := hq'
      subst ev
      obtain ⟨h2, g2, d2, t2, os'⟩ := s'
      obtain rfl : os' = os := os2
      refine ⟨rv, ?_⟩
      exact ⟨.ref (hp.objs.size + 1), H2, I1.call (h' := h2) (g' := g2) (d' := d2) (t' := t2) (ch := []) (.trans (Un.laidN (fs := frs X.stack) (ex := []) (o := exo (hp.objs.size + 1) C none) kk (Heap.get?_none_of_le hsz) hn) un2) hok2 bare2 (fun b z => absurd z (by simp)), rfl, q2⟩
    | next => exact False.elim hq'
    | brk => exact False.elim hq'
    | cont => exact False.elim hq'
theorem pe_oex (T : OexC X.K C) (iC : PySem.W.findIn X.K (.ref C) "__init__" = some (some (.ref fI))) (tI : PySem.W.typeIn X.K (.ref fI) = some (.type "function"))
    (F1 : FnOk X.prog X.w X.K X.mg X.base CX k fI fd ps sp) (hr : Room (k + 1) X.A) (hb : Binds X.K fd ps []) (hx : Passes CX X E0) (hg : Gl X x) (hm : X.mg x = some (.ref C)) (ha : PA X (e :: es) ta)
    (hdb : (x == ("__debug__" : Str)) = false := by decide) (he : starEach (e :: es) X.env = (false, eval e X.env) :: starEach es X.env := by rfl) (hpl : (backTo pos (starEach es X.env)).any (·.1) = false := by rfl) :
    PE X (.Call (.Name x p) (e :: es) [] pos) (tMkV C sp ta) := by
  refine ⟨fun pins s σ H Q I h => ?_⟩
  refine wpAny_Call_Name_kw (ld_glob I hg hm ?_ hdb)
  refine PySem.W.callWith_K (h₀ := X.base) I.ok.mod.kin T.kC (thn (ha.run pos pins s σ H _ I h) fun us s1 ⟨vs, H1, I1, r1, hz, q1⟩ => ⟨I1.kIn, ?_⟩) he hpl
  refine run_oexK (us := us) (us2 := us) (kws0 := []) T iC tI F1 hr (fun s' u hK => ?_) hx I1 r1 (by rw [← Paired.length r1]; exact hz) q1
  have hl : (u :: us).length = ps.length := by
    have e := F1.len _ _ _ _ (q1 s1.heap.objs.size (I1.hok.fresh (Nat.le_refl _)))
    rw [← e, List.length_cons, List.length_cons, Paired.length r1]
  have b := hb s' (u :: us) hK (by rw [List.append_nil]; exact hl)
  rw [List.append_nil] at b
  exact b
/-- C(k = e, ..) -/
structure mkOK (C : Addr) (sp : Sp) (is : List Nat) (n : Nat) (zs : List V) (H : Hp) (Q : VK) : Prop where
  len : zs.length = n
  k : ∀ a, H a = none → sp (.ref a :: permL is zs) (upd H a (exo a C none)) (fun v H2 => v = .non ∧ Q (.ref a) H2) E0
def tMkVK (C : Addr) (sp : Sp) (is : List Nat) (n : Nat) (tk : TA) : TE := fun σ H Q => tk σ H fun zs H1 => mkOK C sp is n zs H1 Q
theorem pe_oexK {is : List Nat} (T : OexC X.K C) (iC : PySem.W.findIn X.K (.ref C) "__init__" = some (some (.ref fI))) (tI : PySem.W.typeIn X.K (.ref fI) = some (.type "function"))
    (F1 : FnOk X.prog X.w X.K X.mg X.base CX k fI fd ps sp) (hr : Room (k + 1) X.A) (hb : ∀ (s : Shared) (u : Value) (ws : List Value), ws.length = ks.length → BindsTo s fd ⟨[u], ks.zip ws⟩ (ps.zip (u :: permL is ws))) (hx : Passes CX X E0) (hg : Gl X x) (hm : X.mg x = some (.ref C))
    (hkw : PK X kws tk) (hall : (backToKw pos (keywordEach kws X.env)).all (·.1.isSome) = true := by rfl) (hks : (backToKw pos (keywordEach kws X.env)).filterMap (·.1) = ks := by rfl)
    (hdb : (x == ("__debug__" : Str)) = false := by decide)
    (hpl : ((backTo pos (starEach [] X.env)).any (·.1) || (backToKw pos (keywordEach kws X.env)).any (·.1.isNone)) = false := by rfl) :
    PE X (.Call (.Name x p) [] kws pos) (tMkVK C sp is ks.length tk) := by
  refine ⟨fun pins s σ H Q I h => ?_⟩
  refine wpAny_Call_Name_kw (ld_glob I hg hm ?_ hdb)
  refine PySem.W.callWith_KW0 (h₀ := X.base) I.ok.mod.kin T.kC hall (thn (hkw.run pos pins s σ H _ I h) fun ws s2 ⟨zs, H2, I2, rz, hz, q2⟩ => ⟨I2.kIn, ?_⟩) hpl
  rw [hks]
  exact run_oexK (us := []) (us2 := permL is ws) T iC tI F1 hr (fun s' u hK => hb s' u ws (by rw [← Paired.length rz]; exact hz)) hx I2 (permL_rel is rz) (Nat.zero_le _) q2
/-- C(), an own error class without an own __init__ -/
theorem pe_exc0 {bmB : List Value} {B newId initId : String} (F : ExcBaseFacts B newId initId bmB) (q : PySem.W.excIn X.K C bmB newId = true) (gC : X.mg x = some (.ref C)) (kC : PySem.W.keepIn X.K (.ref C) = true) (hg : Gl X x) (hdb : (x == ("__debug__" : Str)) = false := by decide) :
    PE X (.Call (.Name x p) [] [] pos) (fun σ H Q => ∀ a, H a = none → Q (.ref a) (upd H a (ExO (.ref C) a))) := by
  refine ⟨fun pins s σ H Q I h => ?_⟩
  refine wpAny_Call_Name_kw (ld_glob I hg gC ?_ hdb)
  refine PySem.W.callWith_KW0 (h₀ := X.base) I.ok.mod.kin kC (by rfl) (thn (pk_nil.run pos pins s σ H (fun vs H1 => vs = [] ∧ H1 = H) I ⟨rfl, rfl⟩) fun ws s2 ⟨zs, H2, I2, rz, ez, eH⟩ => ⟨I2.kIn, ?_⟩) (by rfl)
  subst eH
  show wpAny _ _ (call (.ref C) []) _ _ _
  obtain ⟨bm, N, nm, qn, bs, hdct, sn, sub, ab, col, dd, k0, k1, k2, k3, k5, mN, hC, hN, hni, T⟩ := exc_obj I2.kIn q
  refine wpAny_call_exc_subT F T hC hN hni (fun h' a hm => ?_) (Nat.zero_le _)
  have hn : H2 a = none := I2.hok.gone hm.new
  obtain ⟨t, ht, _, _⟩ := hm.there
  exact ⟨.ref a, upd H2 a (ExO (.ref C) a), I2.laidN hm.keeps hm.new hn (exO_ok ht ⟨rfl, rfl⟩ rfl rfl rfl (show 4 < 6 by decide)), rfl, h a hn⟩
end
/-! ### != of two lists of the same things -/
section
variable {X : Cx}
def plainW : V → Bool
  | .int _ => true
  | .ref _ => true
  | .str _ => true
  | .non => true
  | _ => false
def rNeSameW (K : PySem.W.Frag) : R2 := fun x y H Q => ∃ a b xs, x = .ref a ∧ y = .ref b ∧ SqL K H a xs ∧ SqL K H b xs ∧ (∀ z ∈ xs, plainW z = true) ∧ Q (.bl false) H
theorem eqAt_sameW {A : Around} {s : Shared} {z : V} {u v : Value} (h : plainW z = true) (r : RelV z u) (r' : RelV z v) : SeqAt.EqAt A s u v true := by
  cases z with
  | int i =>
    have := eqAt_V (A := A) (s := s) r r' rfl rfl
    have e : eqV (.int i) (.int i) = true := by simp [eqV]
    rw [e] at this
    exact this
  | str i =>
    have := eqAt_V (A := A) (s := s) r r' rfl rfl
    have e : eqV (.str i) (.str i) = true := by simp [eqV]
    rw [e] at this
    exact this
  | non =>
    have := eqAt_V (A := A) (s := s) r r' rfl rfl
    have e : eqV .non .non = true := by simp [eqV]
    rw [e] at this
    exact this
  | ref a =>
    obtain rfl : u = Value.ref a := r
    obtain rfl : v = Value.ref a := r'
    exact SeqAt.EqAt.same _
  | _ => cases h
theorem op_neSameW (hu : X.A.units < cLine) : OpR X (compareOp .NotEq) (rNeSameW X.K) := by
  intro pins s σ H x y v u Q I rx ry h
  obtain ⟨a, b, xs, rfl, rfl, ha, hb, hp, q⟩ := h
  obtain rfl : v = Value.ref a := rx
  obtain rfl : u = Value.ref b := ry
  obtain ⟨its, r, ⟨o, n, e, c, d, dt⟩, _⟩ := I.list ha
  obtain ⟨its2, r2, ⟨o2, n2, e2, c2, d2, dt2⟩, _⟩ := I.list hb
  have hsz : its.toArray.size = its2.toArray.size := by rw [List.size_toArray, List.size_toArray, ← r.length, ← r2.length]
  show wpAny (model X.prog X.w) X.A (richCompare .NotEq (.ref a) (.ref b)) (EP X pins σ Q) X.xe s
  refine SeqAt.RcNeAt.lists (e := fun _ => true) ⟨o, e, c, n, dt⟩ ⟨o2, e2, c2, n2, dt2⟩ hsz hu (fun j h1 h2 => ?_) _ _ _ _ ?_
  · have k1 : j < xs.length := by rw [r.length]; simpa using h1
    obtain ⟨w1, hw1, rw1⟩ := r.get (List.getElem?_eq_getElem k1)
    obtain ⟨w2, hw2, rw2⟩ := r2.get (List.getElem?_eq_getElem k1)
    have g1 : its[j]? = some its.toArray[j] := by
      have h1' : j < its.length := by simpa using h1
      rw [List.getElem?_eq_getElem h1'] <;> simp
    have g2 : its2[j]? = some its2.toArray[j] := by
      have h2' : j < its2.length := by simpa using h2
      rw [List.getElem?_eq_getElem h2'] <;> simp
    rw [g1] at hw1
    rw [g2] at hw2
    rw [Option.some.inj hw1, Option.some.inj hw2]
    exact eqAt_sameW (hp _ (List.getElem_mem k1)) rw1 rw2
  · have e : (!(List.range its.toArray.size).all fun _ => true) = false := by simp
    rw [e]
    exact ⟨.bl false, H, I, rfl, q⟩
def rEqSameW (K : PySem.W.Frag) : R2 := fun x y H Q => ∃ a b xs, x = .ref a ∧ y = .ref b ∧ SqL K H a xs ∧ SqL K H b xs ∧ (∀ z ∈ xs, plainW z = true) ∧ Q (.bl true) H
theorem op_eqSameW (hu : X.A.units < cLine) : OpR X (compareOp .Eq) (rEqSameW X.K) := by
  intro pins s σ H x y v u Q I rx ry h
  obtain ⟨a, b, xs, rfl, rfl, ha, hb, hp, q⟩ := h
  obtain rfl : v = Value.ref a := rx
  obtain rfl : u = Value.ref b := ry
  obtain ⟨its, r, ⟨o, n, e, c, d, dt⟩, _⟩ := I.list ha
  obtain ⟨its2, r2, ⟨o2, n2, e2, c2, d2, dt2⟩, _⟩ := I.list hb
  have hsz : its.toArray.size = its2.toArray.size := by rw [List.size_toArray, List.size_toArray, ← r.length, ← r2.length]
  show wpAny (model X.prog X.w) X.A (richCompare .Eq (.ref a) (.ref b)) (EP X pins σ Q) X.xe s
  refine SeqAt.RcAt.lists (e := fun _ => true) ⟨o, e, c, n, dt⟩ ⟨o2, e2, c2, n2, dt2⟩ hsz hu (fun j h1 h2 => ?_) _ _ _ _ ?_
  · have k1 : j < xs.length := by rw [r.length]; simpa using h1
    obtain ⟨w1, hw1, rw1⟩ := r.get (List.getElem?_eq_getElem k1)
    obtain ⟨w2, hw2, rw2⟩ := r2.get (List.getElem?_eq_getElem k1)
    have g1 : its[j]? = some its.toArray[j] := by
      have h1' : j < its.length := by simpa using h1
      rw [List.getElem?_eq_getElem h1'] <;> simp
    have g2 : its2[j]? = some its2.toArray[j] := by
      have h2' : j < its2.length := by simpa using h2
      rw [List.getElem?_eq_getElem h2'] <;> simp
    rw [g1] at hw1
    rw [g2] at hw2
    rw [Option.some.inj hw1, Option.some.inj hw2]
    exact eqAt_sameW (hp _ (List.getElem_mem k1)) rw1 rw2
  · have e : ((List.range its.toArray.size).all fun _ => true) = true := by simp
    rw [e]
    exact ⟨.bl true, H, I, rfl, q⟩
end
/-! ### an error class right under the common one -/
structure ErrC (K : PySem.W.Frag) (C EE : Addr) : Prop where
  ec : ExcC K C
  ic : PySem.W.isClsIn K C = true
  ty : PySem.W.typeIn K (.ref C) = some (.type "type")
  cl : ∃ cd, PySem.W.clsIn K C = some cd ∧ cd.mro = [.ref C, .ref EE, .type "ValueError", .type "Exception", .type "BaseException", .type "object"]
theorem ErrC.sub {K : PySem.W.Frag} {C EE : Addr} (e : ErrC K C EE) (base : Value) : PySem.W.mroIn K C base = some ([Value.ref C, .ref EE, .type "ValueError", .type "Exception", .type "BaseException", .type "object"].contains base) := by
  obtain ⟨cd, hc, hm⟩ := e.cl
  unfold PySem.W.mroIn
  rw [hc, Option.bind_some, hm]
  rfl
end My

set_option maxHeartbeats 4000000
/-! My own rules: an instance that is called, also by keywords, also where it raises; a class method by keywords in any order; a dict comprehension over any walk. -/
namespace My
open PySem PySem.Spec PyProof.Rows L2
section
variable {X : Cx} {CX : CXT} {k : Nat} {C g : Addr} {fd : FuncData} {ps ks : List Str} {sp : Sp} {E : L2.St → XK} {fe e : Expr} {es : List Expr} {kws : List Keyword} {pos : Pos} {tf : TE} {t tk : TA}
/-- f(e, ..), f an instance of C, what is let out wished for at the caller's slots -/
def tCallOE (X : Cx) (C : Addr) (sp : Sp) (E : L2.St → XK) (tf : TE) (t : TA) : TE := fun σ H Q => tf σ H fun y H1 => ∃ a, y = V.ref a ∧ t σ H1 fun vs H2 => StX.InsC X H2 a C ∧ sp (V.ref a :: vs) H2 Q (E σ)
theorem pe_callOE (hf : PE X fe tf) (c : StX.CallO X.K C g) (F : FnOk X.prog X.w X.K X.mg X.base CX k g fd ps sp) (hr : Room k X.A) (hb : Binds X.K fd ps []) (hx : ∀ σ, PassesAt CX X σ (E σ)) (ha : PA X (e :: es) t)
    (ht : eval (.Call fe (e :: es) [] pos) X.env = (do callWith pos (← eval fe X.env) [] (backTo pos (starEach (e :: es) X.env)) (backToKw pos (keywordEach [] X.env))) := by rfl)
    (he : starEach (e :: es) X.env = (false, eval e X.env) :: starEach es X.env := by rfl) (hpl : (backTo pos (starEach es X.env)).any (·.1) = false := by rfl) : PE X (.Call fe (e :: es) [] pos) (tCallOE X C sp E tf t) := by
  refine ⟨fun pins s σ H Q I h => ?_⟩
  refine Call_ (thn (hf.run pins s σ H _ I h) fun u s1 ⟨y, H1, I1, ry, a, ey, q⟩ => ?_) ht
  subst ey
  obtain rfl : u = Value.ref a := ry
  refine StX.callO_with (thn (ha.run pos pins s1 σ H1 _ I1 q) fun us s2 ⟨vs, H2, I2, r, hi, q2⟩ => ?_) he hpl
  obtain ⟨ox, od, J, hd⟩ := StX.insC_at I2 hi
  refine ⟨⟨C, ox, od, J, hd⟩, wpAny_call (PySem.W.kco_code I2.kIn J hd c.at_ c.fn c.fi ?_)⟩
  have r2 : Vals (V.ref a :: vs) (Value.ref a :: us) := .cons rfl r
  have hl : (Value.ref a :: us).length = ps.length := by rw [← r2.length]; exact F.len _ _ _ _ q2
  have b := hb s2 (Value.ref a :: us) I2.kIn (by rw [List.append_nil]; exact hl)
  rw [List.append_nil] at b
  refine codeAny_mono (F.run X.A X.stack s2 H2 ⟨Value.ref a :: us, []⟩ (Value.ref a :: us) (V.ref a :: vs) Q (E σ) hr I2.env0 b r2 q2) fun r s' hq => ?_
  cases r with
  | error er => exact hx σ _ H2 s2 er s' I2 hq
  | ok fl =>
    cases fl with
    | ret u => exact I2.after hq
    | next => exact False.elim hq
    | brk => exact False.elim hq
    | cont => exact False.elim hq
end
section
variable {X : Cx} {CX : CXT} {k : Nat} {C q0 g : Addr} {mc : Value} {fd : FuncData} {ps ks : List Str} {sp : Sp} {E : XK} {o : Expr} {m : Str} {pos apos : Pos} {kws : List Keyword} {ta : TE} {tk : TA} {pl : Sem Bool} {gg : List Value → List Value → List Value} {gV : List V → List V → List V}
def tCMethKN (C : Addr) (n : Nat) (sp : Sp) (gV : List V → List V → List V) (E : XK) (ta : TE) (tk : TA) : TE := fun σ H Q => ta σ H fun x H1 => x = .ref C ∧ tk σ H1 fun zs H2 => zs.length = n ∧ sp (gV [.ref C] zs) H2 Q E
theorem pe_cmethKN (he : PE X o ta) (r : ClX.CRead X.K C mc) (c : ClX.CMet X.K C mc m q0 g) (F : FnOk X.prog X.w X.K X.mg X.base CX k g fd ps sp) (hr : Room k X.A) (hx : Passes CX X E) (hkw : PK X kws tk)
    (hb : KBn X.K fd ps (0 + 1) ks gg gV)
    (hall : (backToKw pos (keywordEach kws X.env)).all (·.1.isSome) = true := by rfl) (hks : (backToKw pos (keywordEach kws X.env)).filterMap (·.1) = ks := by rfl)
    (hpl : ((backTo pos (starEach [] X.env)).any (·.1) || (backToKw pos (keywordEach kws X.env)).any (·.1.isNone)) = false := by rfl)
    (ht : eval (.Call (.Attribute o m apos) [] kws pos) X.env = (do
      let ov ← eval o X.env
      standAt apos.atName
      let (f, first) ← holding [ov] (getMethod ov m pl)
      callWith pos f first (backTo pos (starEach [] X.env)) (backToKw pos (keywordEach kws X.env))) := by rfl) :
    PE X (.Call (.Attribute o m apos) [] kws pos) (tCMethKN C ks.length sp gV E ta tk) := by
  refine ⟨fun pins s σ H Q I h => ?_⟩
  refine PySem.W.methodCall_KW (pl := pl) (thn (he.run pins s σ H _ I h) fun u s1 ⟨x, H1, I1, rx, ex, h2⟩ => ?_) ht
  subst ex
  obtain rfl : u = Value.ref C := rx
  refine ClX.getmethcm_ok I1 r c fun s2 I2 => ?_
  refine PySem.W.callWith_of hpl (PySem.W.keeps_M (K := X.K) (self := Value.ref C) c.fi) (evalArgs_kw2_nil hall (thn (hkw.run pos _ s2 σ H1 _ I2 h2) fun ws s3 ⟨zs, H2, I3, rz, hl, h3⟩ => ⟨⟨ClX.pin_at I3, I3.kIn⟩, ?_⟩))
  rw [hks]
  suffices z : wpAny (model X.prog X.w) X.A (call (.ref s1.heap.objs.size) [] (ks.zip ws)) (EP X ((s1.heap.objs.size, PySem.W.methodObj (.ref g) (.ref C)) :: pins) σ Q) X.xe s3 from thn z fun _ _ y => ClX.unpinE y
  refine wpAny_call (PySem.W.method_call (ClX.pin_at I3) ?_)
  have r1 : Vals [V.ref C] [Value.ref C] := .cons rfl .nil
  have r2 := hb.rel r1 rz
  refine codeAny_mono (F.run X.A X.stack s3 H2 ⟨Value.ref C :: [], ks.zip ws⟩ (gg [Value.ref C] ws) (gV [V.ref C] zs) Q E hr I3.env0 (hb.to s3 [Value.ref C] ws I3.kIn rfl (rz.length.symm.trans hl)) r2 h3) fun r s' hq => ?_
  cases r with
  | error er => exact hx _ σ H2 s3 er s' I3 hq
  | ok fl =>
    cases fl with
    | ret u => exact I3.after hq
    | next => exact False.elim hq
    | brk => exact False.elim hq
    | cont => exact False.elim hq
end
/-! ### an instance called by keywords -/
theorem callOK_of {M : Model} {A : Around} {E : Value → Shared → Prop} {s : Shared} {a : Addr} {pos : Pos} {Q : Value → Shared → Prop} {args : List (Bool × Sem Value)} {kws : List (Option Str × Sem Value)} (hplain : (args.any (·.1) || kws.any (·.1.isNone)) = false)
    (h : wpAny M A (evalArgs (.ref a) true args kws) (fun z s₁ => (∃ C ox od, PySem.W.InstAt s₁.heap a ox C od ∧ ox.data = .plain) ∧ wpAny M A (call (.ref a) ([] ++ z.pos) z.kw) Q E s₁) E s) : wpAny M A (callWith pos (.ref a) [] args kws) Q E s := by
  unfold callWith
  have h1 := (Bool.or_eq_false_iff.mp hplain).1
  have h2 := (Bool.or_eq_false_iff.mp hplain).2
  refine wpAny_bind (wpAny_holding (wpAny_mono (by first | exact h | (simp only [h1, h2]; exact h)) (fun z s₁ h₁ => wpAny_bind (wpAny_standAt ?_)) fun _ _ y => y))
  obtain ⟨⟨C, ox, od, J, hd⟩, h₁⟩ := h₁
  have L := PySem.W.kco_keeper (M := M) J hd
  simp only [h1, h2]
  refine wpAny_bind (L.here ?_)
  have tail : ∀ {t : Sem Value}, wpAny M A t Q E s₁ → wpAny M A (t >>= fun r => holding [r] point >>= fun _ => pure r) Q E s₁ :=
    fun ht => wpAny_bind (wpAny_mono ht (fun r s₂ hr => wpAny_bind (wpAny_holding (wpAny_point (wpAny_pure hr)))) fun _ _ y => y)
  exact tail (wpAny_operateT h₁)
section
variable {X : Cx} {CX : CXT} {k : Nat} {C g : Addr} {fd : FuncData} {ps ks : List Str} {sp : Sp} {E : XK} {fe : Expr} {kws : List Keyword} {pos : Pos} {tf : TE} {tk : TA}
def tCallOK (X : Cx) (C : Addr) (n : Nat) (sp : Sp) (E : XK) (tf : TE) (tk : TA) : TE := fun σ H Q => tf σ H fun y H1 => ∃ a, y = V.ref a ∧ tk σ H1 fun zs H2 => zs.length = n ∧ StX.InsC X H2 a C ∧ sp (V.ref a :: zs) H2 Q E
theorem pe_callOK (hf : PE X fe tf) (c : StX.CallO X.K C g) (F : FnOk X.prog X.w X.K X.mg X.base CX k g fd ps sp) (hr : Room k X.A) (hx : Passes CX X E) (hkw : PK X kws tk)
    (hb : ∀ (s : Shared) (u : Value) (ws : List Value), X.K.In s.heap → ws.length = ks.length → BindsTo s fd ⟨[u], ks.zip ws⟩ (ps.zip (u :: ws)))
    (hall : (backToKw pos (keywordEach kws X.env)).all (·.1.isSome) = true := by rfl) (hks : (backToKw pos (keywordEach kws X.env)).filterMap (·.1) = ks := by rfl)
    (hpl : ((backTo pos (starEach [] X.env)).any (·.1) || (backToKw pos (keywordEach kws X.env)).any (·.1.isNone)) = false := by rfl)
    (ht : eval (.Call fe [] kws pos) X.env = (do callWith pos (← eval fe X.env) [] (backTo pos (starEach [] X.env)) (backToKw pos (keywordEach kws X.env))) := by rfl) :
    PE X (.Call fe [] kws pos) (tCallOK X C ks.length sp E tf tk) := by
  refine ⟨fun pins s σ H Q I h => ?_⟩
  show wpAny _ _ (eval (.Call fe [] kws pos) X.env) _ _ _
  rw [ht]
  refine wpAny_bind (thn (hf.run pins s σ H _ I h) fun u s1 ⟨y, H1, I1, ry, a, ey, q⟩ => ?_)
  subst ey
  obtain rfl : u = Value.ref a := ry
  refine callOK_of hpl (evalArgs_kw2_nil hall (thn (hkw.run pos pins s1 σ H1 _ I1 q) fun ws s2 ⟨zs, H2, I2, rz, hl, hi, q2⟩ => ?_))
  rw [hks]
  obtain ⟨ox, od, J, hd⟩ := StX.insC_at I2 hi
  refine ⟨⟨C, ox, od, J, hd⟩, wpAny_call (PySem.W.kco_code I2.kIn J hd c.at_ c.fn c.fi ?_)⟩
  have r2 : Vals (V.ref a :: zs) (Value.ref a :: ws) := .cons rfl rz
  refine codeAny_mono (F.run X.A X.stack s2 H2 ⟨Value.ref a :: [], ks.zip ws⟩ (Value.ref a :: ws) (V.ref a :: zs) Q E hr I2.env0 (hb s2 (.ref a) ws I2.kIn (rz.length.symm.trans hl)) r2 q2) fun r s' hq => ?_
  cases r with
  | error er => exact hx _ σ H2 s2 er s' I2 hq
  | ok fl =>
    cases fl with
    | ret u => exact I2.after hq
    | next => exact False.elim hq
    | brk => exact False.elim hq
    | cont => exact False.elim hq
end
end My

/-! My own rules: an instance in a list of ints and itself, != an int, within an except suite. -/
namespace My
open PySem PySem.Spec PyProof.Rows L2
section
open PySem.SeqAt MeetsSeq MeetsSeq2 MeetsSeq3 SeqRoads2
variable {prog : Program} {w : World} {A : Around} {R : Result → Shared → Prop}
theorem eqBool_same {A : Around} {Ex : Value → Shared → Prop} {s : Shared} {a : Addr} {Q : Bool → Shared → Prop} (h : Q true s) : wpAny (model prog w) A (eqBool (.ref a) (.ref a)) Q Ex s := by
  unfold eqBool
  refine wpAny_holding ?_
  refine wpAny_ite_split (fun _ => ?_) (fun hab => absurd (beq_self_eq_true _) hab)
  wp_walk
  exact h
theorem contains_loopT (l : Addr) (x : Value) (j : Nat) (I : Shared → Prop)
    (hl : ∀ s, I s → ∃ (items : Array Value) (n : Nat), s.heap.get? l = some { cls := .type "list", data := .seq items n } ∧ j < items.size ∧ ∀ i (h : i < items.size), i ≤ j → wpAny (model prog w) A.in1 (eqBool items[i] x) (fun r s' => r = decide (i = j) ∧ I s') (fun e s' => R (.error e) s') s)
    (fin : ∀ s, I s → R (.ok (.ret (.bool true))) s) (k : Nat) :
    ∀ i : Nat, j - i = k → i ≤ j → ∀ s, I s → wpAny (model prog w) A.in1 (Builtin.«list.__contains__.loop» ⟨[.ref l, x, rawInt i], []⟩) (GQ.FinOf prog w A R) (fun e s' => R (.error e) s') s := by
  induction k with
  | zero =>
    intro i hk hi s h
    obtain ⟨items, n, hl1, hs1, turn⟩ := hl _ h
    have hlt : i < items.size := by omega
    have ht := turn i hlt hi
    obtain ⟨hp, g, d, tk, os⟩ := s
    wp_walk using AutoSeq1.wpAny_loadPart' hl1
    have hi1 : items[((i : Nat) : Int).toNat]? = some items[i] := by simp [hlt]
    rw [hi1]
    refine wpAny_bind (wpAny_mono ht (fun r s2 h2 => ?_) fun _ _ x => x)
    obtain ⟨hr, h2⟩ := h2
    rw [decide_eq_true (show i = j by omega)] at hr
    subst hr
    have hR := fin s2 h2
    obtain ⟨hp2, g2, d2, tk2, os2⟩ := s2
    wp_walk
    exact hR
  | succ k ih =>
    intro i hk hi s h
    obtain ⟨items, n, hl1, hs1, turn⟩ := hl _ h
    have hlt : i < items.size := by omega
    have ht := turn i hlt hi
    obtain ⟨hp, g, d, tk, os⟩ := s
    wp_walk using AutoSeq1.wpAny_loadPart' hl1
    have hi1 : items[((i : Nat) : Int).toNat]? = some items[i] := by simp [hlt]
    have hc : ((i : Int) + 1) = ((i + 1 : Nat) : Int) := by omega
    rw [hi1]
    refine wpAny_bind (wpAny_mono ht (fun r s2 h2 => ?_) fun _ _ x => x)
    obtain ⟨hr, h2⟩ := h2
    rw [decide_eq_false (show ¬ i = j by omega)] at hr
    subst hr
    have hrec := ih (i + 1) (by omega) (by omega) s2 h2
    obtain ⟨hp2, g2, d2, tk2, os2⟩ := s2
    wp_walk
    rw [hc]
    exact ⟨plainId_quiet plain_contains_loop _, codeAny_builtin entry_contains_loop (by
      rw [Around.under_plainId plain_contains_loop _]
      exact hrec)⟩
theorem list_containsT (l : Addr) (x : Value) (j : Nat) (I : Shared → Prop)
    (hl : ∀ s, I s → ∃ (items : Array Value) (n : Nat), s.heap.get? l = some { cls := .type "list", data := .seq items n } ∧ j < items.size ∧ ∀ i (h : i < items.size), i ≤ j → wpAny (model prog w) A.in1 (eqBool items[i] x) (fun r s' => r = decide (i = j) ∧ I s') (fun e s' => R (.error e) s') s)
    (fin : ∀ s, I s → R (.ok (.ret (.bool true))) s) {s : Shared} (h : I s) : wpAny (model prog w) A.in1 (Builtin.«list.__contains__» ⟨[.ref l, x], []⟩) (GQ.FinOf prog w A R) (fun e s' => R (.error e) s') s := by
  have hrec := contains_loopT (A := A) (R := R) l x j I hl fin _ 0 rfl (Nat.zero_le _) s h
  obtain ⟨items, n, hl1, _, _⟩ := hl _ h
  obtain ⟨hp, g, d, tk, os⟩ := s
  wp_walk using AutoSeq1.wpAny_loadPart' hl1
  exact ⟨plainId_quiet plain_contains_loop _, codeAny_builtin entry_contains_loop (by
    rw [Around.under_plainId plain_contains_loop _]
    exact hrec)⟩
end
/-- an instance != an int -/
theorem ne_KI {prog : Program} {w : World} {A : Around} {Ex : Value → Shared → Prop} {s : Shared} {K : PySem.W.Frag} {C f a : Addr} {oa : Obj} {oda : Option Obj} {i : Int} {tk : Tok} {Q : Value → Shared → Prop} (hu : A.units + 1 < cLine) (X : K.In s.heap) (N : NoNe K C f)
    (hi : PySem.W.subIn K (.type "int") (.ref C) = some false) (I : PySem.W.InstAt s.heap a oa C oda) (h : wpAny (model prog w) A.in1 (call (.ref f) [.ref a, .int i tk]) (fun v s' => ∃ r, v = .bool r ∧ Q (.bool (!r)) s') Ex s) :
    wpAny (model prog w) A (richCompare .NotEq (.ref a) (.int i tk)) Q Ex s := by
  have body : wpAny (model prog w) A.in1 (Builtin.«object.__ne__» ⟨[.ref a, .int i tk], []⟩) (fun fin s' => ∃ r, fin = .done (.ret (.bool (!r))) ∧ Q (.bool (!r)) s') Ex s := by
    unfold Builtin.«object.__ne__»
    refine wpAny_bind (wpAny_of_eq (a := ((Value.ref a : Value), [Value.int i tk])) (by first | rfl | (simp only [slotArgs]; rfl)) ?_)
    refine wpAny_bind (wpAny_cRoomFor hu ?_)
    refine wpAny_bind (PySem.W.ifBound_K X I N.eq N.fn (wpAny_mono h (fun v s' hv => ?_) fun _ _ e => e))
    obtain ⟨r, rfl, q⟩ := hv
    refine wpAny_bind (wpAny_truthy_bool ?_)
    exact wpAny_pure ⟨r, rfl, q⟩
  have below : PySem.W.Looks (model prog w) s.heap (isInstance (.ref a) (.type "object")) true := I.type.andThen (PySem.W.looks_subIn X N.ob)
  have one : wpAny (model prog w) A (tryCompare (.ref a) "__ne__" (.int i tk)) (fun r s' => ∃ t, r = some (.bool (!t)) ∧ Q (.bool (!t)) s') Ex s := by
    unfold tryCompare
    simp only [callSpecialIfBound?, bindSpecialIfBound?]
    refine wpAny_bind (wpAny_holding (wpAny_bind (wpAny_bind (wpAny_bind (I.type.here ((PySem.W.looks_findIn X N.ne).here ?_))))))
    simp only [F.cmp_object.ne.bind]
    refine wpAny_bind (wpAny_askSetting (wpAny_ite ?_))
    have fin : wpAny (model prog w) A (call (.builtin "object.__ne__") ([.ref a] ++ [.int i tk]) >>= fun v => pure (some v)) (fun r s' => ∃ t, r = some (.bool (!t)) ∧ Q (.bool (!t)) s') Ex s := by
      refine wpAny_bind (wpAny_call (codeAny_call_builtin F.cmp_object.ne.plain F.cmpEntry_ne (PySem.W.check_slot F.cmpKind_ne F.cmpSplit_ne below (F.cmpArgs_ne _ _) (wpAny_mono body (fun fin s' hf => ?_) fun _ _ e => e))))
      obtain ⟨r, rfl, q⟩ := hf
      exact wpAny_pure ⟨r, rfl, q⟩
    have fin2 := wpAny_mono fin (Q' := fun a s' => wpAny (model prog w) A (match a with
        | some Value.notImplemented => pure none
        | none => pure none
        | some v => pure (some v)) (fun r s' => ∃ t, r = some (Value.bool !t) ∧ Q (Value.bool !t) s') Ex s') (fun r s' hr => by
      obtain ⟨t, rfl, q⟩ := hr
      exact wpAny_pure ⟨t, rfl, q⟩) fun _ _ e => e
    split
    · exact wpAny_pure (by exact fin2)
    · exact wpAny_tryCatch (wpAny_pure (by exact fin2))
  unfold richCompare
  simp only [oneThing_ref]
  refine wpAny_holding (wpAny_bind (wpAny_cRoomFor (by omega) ?_))
  refine wpAny_bind (I.type.here (wpAny_bind (wpAny_typeOf (typeIs_int s i tk) ?_)))
  split
  · refine wpAny_bind ((PySem.W.looks_subIn X hi).here ?_)
    simp only [Bool.false_eq_true, if_false]
    refine wpAny_bind (wpAny_mono one (fun r s' z => ?_) fun _ _ e => e)
    obtain ⟨t, rfl, hq⟩ := z
    exact wpAny_pure hq
  · refine wpAny_bind (wpAny_pure ?_)
    simp only [Bool.false_eq_true, if_false]
    refine wpAny_bind (wpAny_mono one (fun r s' z => ?_) fun _ _ e => e)
    obtain ⟨t, rfl, hq⟩ := z
    exact wpAny_pure hq
section
variable {X : Cx} {k : Nat} {C f : Addr} {fd : FuncData} {ps : List Str} {sp : Sp} {E : XK} {p : Addr × Obj}
theorem run_own1P {pins : List (Addr × Obj)} {s : Shared} {σ : L2.St} {H : Hp} {Q : VK} {us : List Value} {vs : List V} (F : FnP X.prog X.w X.K X.mg X.base k f fd ps sp) (hr : L2H.RoomH (k + 1) X.A) (hp : p ∈ X.pn) (hb : Binds X.K fd ps [])
    (I : Inv X pins σ H s) (r : Vals vs us) (h : sp vs H Q E) : wpAny (model X.prog X.w) X.A.in1 (call (.ref f) us) (EP X pins σ Q) X.xe s := by
  have hl : (us ++ []).length = ps.length := by
    rw [List.append_nil, ← F.len _ _ _ _ h]
    exact r.length.symm
  have P1 := I.pin p (List.mem_append_left _ hp)
  have hpin : L2H.PinOk X.stack H s p := ⟨P1.1, P1.2.1, fun hm => (List.mem_cons.mp (I.stkSub p.1 hm)).elim P1.2.2.1 P1.2.2.2.1, P1.2.2.2.2⟩
  have hr1 : L2H.RoomH k X.A.in1 := ⟨by have := hr.dp; show X.A.depth + 3 * k + 5 < _; omega, by have := hr.un; show X.A.units + 1 + 16 * k + 200 < _; omega⟩
  refine wpAny_call (codeAny_mono (F.run X.A.in1 X.stack s H ⟨us, []⟩ us vs _ E p hr1 hpin I.env0.in1 (by
    have := hb s us I.kIn hl
    rw [List.append_nil] at this
    exact this) r h) fun r s' hq => ?_)
  cases r with
  | error e => exact hq.elim
  | ok fl =>
    cases fl with
    | ret w => exact I.after hq
    | next => exact False.elim hq
    | brk => exact False.elim hq
    | cont => exact False.elim hq
/-- an instance in a list that holds it behind some ints that are not equal to it -/
def rInP (sp : Sp) (E : XK) (C : Addr) : R2 := fun x y H Q => ∃ a dx fs l, ∃ ys : List V, ∃ j : Nat, x = .ref a ∧ y = .ref l ∧ H a = some (.ins C dx fs) ∧ H l = some (.lst ys) ∧ ys[j]? = some (V.ref a) ∧ (∀ i, i < j → ∃ n : Int, ys[i]? = some (V.int n) ∧ sp [.ref a, .int n] H (fun v H' => v = .bl false ∧ H' = H) E) ∧ Q (.bl true) H
theorem in_ownP (O : OthC X.K C f) (Fk : FnP X.prog X.w X.K X.mg X.base k f fd ps sp) (hr : L2H.RoomH (k + 1) X.A) (hp : p ∈ X.pn) (hb : Binds X.K fd ps []) : OpR X (compareOp .In) (rInP sp E C) := by
  intro pins s σ H x y v u Q I rx ry h
  obtain ⟨a, dx, fs, l, ys, j, rfl, rfl, ea, el, hj, hz, q⟩ := h
  obtain rfl : v = Value.ref a := rx
  obtain rfl : u = Value.ref l := ry
  obtain ⟨z0, its0, n0, r0, e0⟩ := I.hok l _ el
  show wpAny (model X.prog X.w) X.A (do return .bool (← contains (.ref l) (.ref a))) (EP X pins σ Q) X.xe s
  have hT : s.TypeIs (.ref l) "list" := ⟨_, e0, rfl⟩
  have hjl := (List.getElem?_eq_some_iff.mp hj).1
  refine wpAny_bind (wpAny_contains_slot hT F.slot_list_contains (wpAny_mono (GQ.call_here (Q := fun v s' => v = .bool true ∧ Inv X pins σ H s') F.slot_list_contains hT F.entry_list_contains (F.args_list_contains_2 _ _)
    (list_containsT l (.ref a) j (fun s' => Inv X pins σ H s') (fun s' I' => ?_) (fun s' I' => ⟨rfl, I'⟩) I)) (fun v s' hv => ?_) fun _ _ e => e))
  · obtain ⟨z1, its, n, r, e⟩ := I'.hok l _ el
    refine ⟨its.toArray, n, e, by rw [List.size_toArray, ← r.length]; exact hjl, fun i hi hij => ?_⟩
    have k1 : i < ys.length := by rw [r.length]; simpa using hi
    obtain ⟨u, hu, ru⟩ := r.get (List.getElem?_eq_getElem k1)
    have g1 : its[i]? = some its.toArray[i] := by
      have h1' : i < its.length := by simpa using hi
      rw [List.getElem?_eq_getElem h1'] <;> simp
    rw [g1] at hu
    rw [Option.some.inj hu]
    by_cases hE : i = j
    · subst hE
      rw [List.getElem?_eq_getElem k1] at hj
      rw [Option.some.inj hj] at ru
      obtain rfl : u = Value.ref a := ru
      exact eqBool_same ⟨(decide_eq_true rfl).symm, I'⟩
    · obtain ⟨m, em, hsp⟩ := hz i (by omega)
      rw [List.getElem?_eq_getElem k1] at em
      rw [Option.some.inj em] at ru
      obtain ⟨mA, J, _⟩ := ins_get I'.hok ea
      obtain ⟨od, J, _⟩ := J.look
      obtain ⟨t, rfl⟩ := ru
      have own : wpAny (model X.prog X.w) X.A.in1 (call (.ref f) [.ref a, .int m t]) (fun v s' => ∃ r, v = .bool r ∧ ∃ t, Value.bool r = .bool t ∧ (t = decide (i = j) ∧ Inv X pins σ H s')) X.xe s' := by
        refine wpAny_mono (run_own1P (vs := [V.ref a, V.int m]) Fk hr hp hb I' (.cons rfl (.cons ⟨t, rfl⟩ .nil)) hsp) (fun v s2 hv => ?_) fun _ _ e => e
        obtain ⟨x, H2, I2, rv, ex, eH⟩ := hv
        subst ex
        subst eH
        obtain rfl : v = Value.bool false := rv
        exact ⟨false, rfl, false, rfl, (decide_eq_false hE).symm, I2⟩
      have hu1 : X.A.in1.units < cLine := by have := hr.un; show X.A.units + 1 < _; omega
      exact eqBool_any (fun z => nomatch z) (eq_right hu1 I'.kIn O.eq O.fn (typeIs_int s' m t) J O.i F.slot_int_eq (fun Q' q' => call_meets F.slot_int_eq (typeIs_int s' m t) F.entry_int_eq (F.args_int_eq_2 _ _) (dec_int_eq m t a C dx) ⟨J.at_, q'⟩) own)
  · obtain ⟨rfl, I'⟩ := hv
    exact wpAny_truthy_bool (wpAny_pure ⟨.bl true, H, I', rfl, q⟩)
/-- an instance != an int, in a suite -/
def rNeP (sp : Sp) (E : XK) (C : Addr) : R2 := fun x y H Q => ∃ a dx fs, ∃ n : Int, x = .ref a ∧ y = .int n ∧ H a = some (.ins C dx fs) ∧ sp [.ref a, .int n] H (fun v H' => ∃ b, v = .bl b ∧ Q (.bl (!b)) H') E
theorem ne_ownP (N : NoNe X.K C f) (hi : PySem.W.subIn X.K (.type "int") (.ref C) = some false) (Fk : FnP X.prog X.w X.K X.mg X.base k f fd ps sp) (hr : L2H.RoomH (k + 1) X.A) (hp : p ∈ X.pn) (hb : Binds X.K fd ps []) : OpR X (compareOp .NotEq) (rNeP sp E C) := by
  intro pins s σ H x y v u Q I rx ry h
  obtain ⟨a, dx, fs, n, rfl, rfl, ea, q⟩ := h
  obtain rfl : v = Value.ref a := rx
  obtain ⟨t, rfl⟩ := ry
  obtain ⟨mA, J, _⟩ := ins_get I.hok ea
  obtain ⟨od, J, _⟩ := J.look
  show wpAny (model X.prog X.w) X.A (richCompare .NotEq (.ref a) (.int n t)) (EP X pins σ Q) X.xe s
  refine ne_KI (by have := hr.un; omega) I.kIn N hi J (wpAny_mono (run_own1P (vs := [V.ref a, V.int n]) Fk hr hp hb I (.cons rfl (.cons ⟨t, rfl⟩ .nil)) q) (fun v s2 hv => ?_) fun _ _ e => e)
  obtain ⟨x, H2, I2, rv, b, ex, q2⟩ := hv
  subst ex
  obtain rfl : v = Value.bool b := rv
  exact ⟨b, rfl, .bl (!b), H2, I2, rfl, q2⟩
end
/-- all is written: no defaults are left -/
theorem binds_nil {K : PySem.W.Frag} {fd : FuncData} {ps : List Str} {e : List Value} (b : Binds K fd ps e) (v : Vals [] e) : Binds K fd ps [] := by
  cases v
  exact b
section
variable {X : Cx} {CX : CXT} {k : Nat} {C g : Addr} {fd : FuncData} {ps ks : List Str} {sp : Sp} {E : L2.St → XK} {fe e : Expr} {es : List Expr} {kws : List Keyword} {pos : Pos} {tf : TE} {t tk : TA}
/-- f(e, ..), f an instance of C, what is let out wished for at the caller's slots (also in a try body) -/
def tCallO2 (C : Addr) (sp : Sp) (E : L2.St → XK) (tf : TE) (t : TA) : TE := fun σ H Q => tf σ H fun y H1 => ∃ a, y = V.ref a ∧ t σ H1 fun vs H2 => (∃ dx fs, H2 a = some (.ins C dx fs)) ∧ sp (V.ref a :: vs) H2 Q (E σ)
theorem pe_callO2 (hf : PE X fe tf) (c : StX.CallO X.K C g) (F : FnOk X.prog X.w X.K X.mg X.base CX k g fd ps sp) (hr : Room k X.A) (hb : Binds X.K fd ps []) (hx : ∀ σ, PassesAt CX X σ (E σ)) (ha : PA X (e :: es) t)
    (ht : eval (.Call fe (e :: es) [] pos) X.env = (do callWith pos (← eval fe X.env) [] (backTo pos (starEach (e :: es) X.env)) (backToKw pos (keywordEach [] X.env))) := by rfl)
    (he : starEach (e :: es) X.env = (false, eval e X.env) :: starEach es X.env := by rfl) (hpl : (backTo pos (starEach es X.env)).any (·.1) = false := by rfl) : PE X (.Call fe (e :: es) [] pos) (tCallO2 C sp E tf t) := by
  refine ⟨fun pins s σ H Q I h => ?_⟩
  refine Call_ (thn (hf.run pins s σ H _ I h) fun u s1 ⟨y, H1, I1, ry, a, ey, q⟩ => ?_) ht
  subst ey
  obtain rfl : u = Value.ref a := ry
  refine StX.callO_with (thn (ha.run pos pins s1 σ H1 _ I1 q) fun us s2 ⟨vs, H2, I2, r, hi, q2⟩ => ?_) he hpl
  obtain ⟨ox, od, J, hd⟩ := StX.insC_at I2 (.inr hi)
  refine ⟨⟨C, ox, od, J, hd⟩, wpAny_call (PySem.W.kco_code I2.kIn J hd c.at_ c.fn c.fi ?_)⟩
  have r2 : Vals (V.ref a :: vs) (Value.ref a :: us) := .cons rfl r
  have hl : (Value.ref a :: us).length = ps.length := by rw [← r2.length]; exact F.len _ _ _ _ q2
  have b := hb s2 (Value.ref a :: us) I2.kIn (by rw [List.append_nil]; exact hl)
  rw [List.append_nil] at b
  refine codeAny_mono (F.run X.A X.stack s2 H2 ⟨Value.ref a :: us, []⟩ (Value.ref a :: us) (V.ref a :: vs) Q (E σ) hr I2.env0 b r2 q2) fun r s' hq => ?_
  cases r with
  | error er => exact hx σ _ H2 s2 er s' I2 hq
  | ok fl =>
    cases fl with
    | ret u => exact I2.after hq
    | next => exact False.elim hq
    | brk => exact False.elim hq
    | cont => exact False.elim hq
end
end My

/-! My own rules: == of two tuples of instances with an own ==, whatever it answers. -/
namespace My
open PySem PySem.Spec PyProof.Rows L2
section
open PySem PySem.SeqAt
open MeetsSeq MeetsSeq2 MeetsSeq3 SeqRoads2
variable {prog : Program} {w : World} {A : Around} {R : Result → Shared → Prop}
theorem tuple_eqB (l b : Addr) (items items2 : Array Value) (n n2 : Nat) (dd dd2 : Option Addr) (sl sl2 : Array (Option Value)) (t : Nat → Bool) (I : Nat → Shared → Prop)
    (turn : ∀ i (h1 : i < items.size) (h2 : i < items2.size) s, I i s → wpAny (model prog w) A.in1 (eqBool items[i] items2[i]) (fun r s' => r = t i ∧ I (i + 1) s') (fun e s' => R (.error e) s') s)
    (ans : Bool) (hans : ans = true ↔ items.size = items2.size ∧ ∀ i, i < items.size → i < items2.size → t i = true)
    (fin : ∀ i s, I i s → R (.ok (.ret (.bool ans))) s) {s : Shared} (hl1 : s.heap.get? l = some { cls := .type "tuple", dict := dd, data := .seq items n, slots := sl }) (hb1 : s.heap.get? b = some { cls := .type "tuple", dict := dd2, data := .seq items2 n2, slots := sl2 }) (h : I 0 s) :
    wpAny (model prog w) A.in1 (Builtin.«tuple.__eq__» ⟨[.ref l, .ref b], []⟩) (GQ.FinOf prog w A R) (fun e s' => R (.error e) s') s := by
  have f2 := AutoSeq1.sub_tuple_tuple
  have hZ : (items.toList.zip items2.toList).length = min items.size items2.size := by simp
  have h0 := h
  obtain ⟨hp, g, d, tk, os⟩ := s
  wp_walk using wpAny_loadPart' hl1, wpAny_loadPart' hb1, wpAny_forIn_list _ (fun rest b s' => b.1 = none ∧ ∃ i, rest = (items.toList.zip items2.toList).drop i ∧ i ≤ min items.size items2.size ∧ I i s' ∧ ∀ j, j < i → t j = true) _
  case turn =>
    rintro ⟨y, x⟩ rest b s' ⟨hb', i, hz, hi, hI, hall⟩
    have hlt : i < (items.toList.zip items2.toList).length := by
      rcases Nat.lt_or_ge i (items.toList.zip items2.toList).length with h' | h'
      · exact h'
      · rw [List.drop_of_length_le h'] at hz; cases hz
    have hlt' := hlt
    rw [hZ] at hlt'
    have h1 : i < items.size := by omega
    have h2 : i < items2.size := by omega
    rw [List.drop_eq_getElem_cons hlt] at hz
    injection hz with hyx hrest
    have hy : y = items[i] := by have := congrArg Prod.fst hyx; simpa using this
    have hx : x = items2[i] := by have := congrArg Prod.snd hyx; simpa using this
    subst hy hx
    refine wpAny_bind (wpAny_mono (turn i h1 h2 s' hI) (fun r s2 q2 => ?_) fun _ _ x => x)
    obtain ⟨hr, q2⟩ := q2
    cases ht : t i with
    | true =>
      rw [ht] at hr
      subst hr
      wp_walk
      exact ⟨rfl, i + 1, hrest, by omega, q2, fun j hj => by
        by_cases e : j = i
        · rw [e]; exact ht
        · exact hall j (by omega)⟩
    | false =>
      rw [ht] at hr
      subst hr
      have ha : ans = false := by
        cases ha : ans with
        | false => rfl
        | true =>
          have := (hans.mp ha).2 i h1 h2
          rw [ht] at this
          cases this
      have hR := fin _ _ q2
      rw [ha] at hR
      wp_walk
      exact hR
  case fin =>
    rintro ⟨b1, b2⟩ s' ⟨hb', i, hz, hi, hI, hall⟩
    simp only at hb'
    subst hb'
    have hge : min items.size items2.size ≤ i := by
      rcases Nat.lt_or_ge i (items.toList.zip items2.toList).length with h' | h'
      · rw [List.drop_eq_getElem_cons h'] at hz; cases hz
      · exact hZ ▸ h'
    have hR : R (.ok (.ret (.bool ans))) s' := fin _ _ hI
    have ha : ans = (items.size == items2.size) := by
      cases hq : ans with
      | true => exact (beq_iff_eq.mpr (hans.mp hq).1).symm
      | false =>
        refine Eq.symm ?_
        rw [Bool.eq_false_iff]
        intro e
        have e := beq_iff_eq.mp e
        have := hans.mpr ⟨e, fun j h1 h2 => hall j (by omega)⟩
        rw [hq] at this
        cases this
    rw [ha] at hR
    wp_walk
    simpa [Builtin.Tuple.tupleCompareSizes] using hR
  case h =>
    exact ⟨rfl, 0, rfl, Nat.zero_le _, h0, fun j hj => absurd hj (Nat.not_lt_zero _)⟩
end
section
variable {X : Cx} {CX : CXT} {k : Nat} {C f : Addr} {fd : FuncData} {ps : List Str} {sp : Sp} {E : XK}
/-- two tuples of instances; t tells which pairs are equal -/
def rTupB (K : PySem.W.Frag) (C : Addr) (sp : Sp) (E : XK) : R2 := fun x y H Q => ∃ a b, ∃ xs ys : List V, ∃ t : Nat → Bool, ∃ ans : Bool, x = .ref a ∧ y = .ref b ∧ SqT K H a xs ∧ SqT K H b ys ∧
  (∀ (i : Nat) u v, xs[i]? = some u → ys[i]? = some v → ∃ p q dx dy fs gs, u = .ref p ∧ v = .ref q ∧ H p = some (.ins C dx fs) ∧ H q = some (.ins C dy gs) ∧ (p = q → t i = true) ∧ sp [.ref p, .ref q] H (fun w H' => w = .bl (t i) ∧ H' = H) E) ∧
  (ans = true ↔ xs.length = ys.length ∧ ∀ i, i < xs.length → i < ys.length → t i = true) ∧ Q (.bl ans) H
theorem op_tupB (hs : PySem.W.findIn X.K (.ref C) "__eq__" = some (some (.ref f))) (hf : PySem.W.isFn X.K (.ref f) = true) (Fk : FnOk X.prog X.w X.K X.mg X.base CX k f fd ps sp) (hr : Room (k + 1) X.A) (hb : Binds X.K fd ps []) (hx : Passes CX X E) : OpR X (compareOp .Eq) (rTupB X.K C sp E) := by
  intro pins s σ H x y v u Q I rx ry h
  obtain ⟨a, b, xs, ys, t, ans, rfl, rfl, ha, hb', hi, hans, q⟩ := h
  cases rx
  cases ry
  obtain ⟨its, r, e, z⟩ := I.tuple ha
  obtain ⟨its2, r2, e2, z2⟩ := I.tuple hb'
  show wpAny (model X.prog X.w) X.A (richCompare .Eq (.ref a) (.ref b)) (EP X pins σ Q) X.xe s
  obtain ⟨⟨cls, dd, data, sl⟩, ho, hc, n, hd⟩ := id e
  obtain ⟨⟨cls2, dd2, data2, sl2⟩, ho2, hc2, n2, hd2⟩ := id e2
  simp only at hc hd hc2 hd2
  subst hc hd hc2 hd2
  have hu : X.A.units < cLine := hr.units0
  refine wpAny_richCompare_same_room (op := .Eq) ⟨_, ho, rfl⟩ ⟨_, ho2, rfl⟩ F.slot_tuple_eq (GQ.call_here F.slot_tuple_eq ⟨_, ho, rfl⟩ F.entry_tuple_eq (F.args_tuple_eq_2 _ _) ?_) hu
  refine tuple_eqB (R := wants (fun v s' => v ≠ .notImplemented ∧ EP X pins σ Q v s') X.xe) a b its.toArray its2.toArray n n2 dd dd2 sl sl2 t (fun _ s' => Inv X pins σ H s') (fun i h1 h2 s' I' => ?_) ans (by rw [hans, List.size_toArray, List.size_toArray, r.length, r2.length]) (fun i s' I' => ⟨(fun x => nomatch x), .bl ans, H, I', rfl, q⟩) ho ho2 I
  have k1 : i < xs.length := by rw [r.length]; simpa using h1
  have k2 : i < ys.length := by rw [r2.length]; simpa using h2
  obtain ⟨u, hu1, ru⟩ := r.get (List.getElem?_eq_getElem k1)
  obtain ⟨v, hv1, rv⟩ := r2.get (List.getElem?_eq_getElem k2)
  have g1 : its[i]? = some its.toArray[i] := by
    have h1' : i < its.length := by simpa using h1
    rw [List.getElem?_eq_getElem h1'] <;> simp
  have g2 : its2[i]? = some its2.toArray[i] := by
    have h2' : i < its2.length := by simpa using h2
    rw [List.getElem?_eq_getElem h2'] <;> simp
  rw [g1] at hu1
  rw [g2] at hv1
  rw [Option.some.inj hu1, Option.some.inj hv1]
  obtain ⟨p', q', dx, dy, fs, gs, eu, evv, hp, hq, hsame, hsp⟩ := hi i _ _ (List.getElem?_eq_getElem k1) (List.getElem?_eq_getElem k2)
  rw [eu] at ru
  rw [evv] at rv
  obtain rfl : u = Value.ref p' := ru
  obtain rfl : v = Value.ref q' := rv
  by_cases hab : p' = q'
  · subst hab
    exact eqBool_same ⟨(hsame rfl).symm, I'⟩
  · obtain ⟨mA, J, _⟩ := ins_get I'.hok hp
    obtain ⟨mB, J', _⟩ := ins_get I'.hok hq
    obtain ⟨od, J, _⟩ := J.look
    obtain ⟨od', J', _⟩ := J'.look
    obtain ⟨m, hF⟩ := I'.fr
    refine GQ.eqBool_refG hab (PySem.W.cmp_K (op := .Eq) (tb := .ref C) hr.in1.units0 hF I'.ok.mod.kin J J'.type (by simp [PySem.W.notFirst]) hs hf (wpAny_mono (run_own1 (vs := [V.ref p', V.ref q']) Fk hr hb hx I' (.cons rfl (.cons rfl .nil)) hsp) (fun v s2 hv => ?_) fun _ _ e => e))
    obtain ⟨x, H2, I2, rv, ex, eH⟩ := hv
    subst ex
    subst eH
    obtain rfl : v = Value.bool (t i) := rv
    exact ⟨t i, rfl, rfl, I2⟩
end
end My

/-! My own rules: != of two tuples that are equal item by item. -/
namespace My
open PySem PySem.Spec PyProof.Rows L2
section
open PySem PySem.SeqAt
open MeetsSeq MeetsSeq2 MeetsSeq3 SeqRoads2
variable {prog : Program} {w : World} {A : Around} {R : Result → Shared → Prop}
theorem tuple_neG (l b : Addr) (items items2 : Array Value) (n n2 : Nat) (dd dd2 : Option Addr) (sl sl2 : Array (Option Value)) (hsz : items.size = items2.size) (I : Shared → Prop)
    (turn : ∀ i (h1 : i < items.size) (h2 : i < items2.size) s, I s → wpAny (model prog w) A.in1 (eqBool items[i] items2[i]) (fun r s' => r = true ∧ I s') (fun e s' => R (.error e) s') s)
    (fin : ∀ s, I s → R (.ok (.ret (.bool false))) s) {s : Shared} (hl1 : s.heap.get? l = some { cls := .type "tuple", dict := dd, data := .seq items n, slots := sl }) (hb1 : s.heap.get? b = some { cls := .type "tuple", dict := dd2, data := .seq items2 n2, slots := sl2 }) (h : I s) :
    wpAny (model prog w) A.in1 (Builtin.«tuple.__ne__» ⟨[.ref l, .ref b], []⟩) (GQ.FinOf prog w A R) (fun e s' => R (.error e) s') s := by
  have f2 := AutoSeq1.sub_tuple_tuple
  have hZ : (items.toList.zip items2.toList).length = items.size := by simp [hsz]
  have h0 := h
  obtain ⟨hp, g, d, tk, os⟩ := s
  wp_walk using wpAny_loadPart' hl1, wpAny_loadPart' hb1, wpAny_forIn_list _ (fun rest b s' => b.1 = none ∧ ∃ i, rest = (items.toList.zip items2.toList).drop i ∧ i ≤ items.size ∧ I s') _
  case turn =>
    rintro ⟨y, x⟩ rest b s' ⟨hb', i, hz, hi, hI⟩
    have hlt : i < (items.toList.zip items2.toList).length := by
      rcases Nat.lt_or_ge i (items.toList.zip items2.toList).length with h' | h'
      · exact h'
      · rw [List.drop_of_length_le h'] at hz; cases hz
    have h1 : i < items.size := hZ ▸ hlt
    have h2 : i < items2.size := hsz ▸ h1
    rw [List.drop_eq_getElem_cons hlt] at hz
    injection hz with hyx hrest
    have hy : y = items[i] := by have := congrArg Prod.fst hyx; simpa using this
    have hx : x = items2[i] := by have := congrArg Prod.snd hyx; simpa using this
    subst hy hx
    refine wpAny_bind (wpAny_mono (turn i h1 h2 s' hI) (fun r s2 q2 => ?_) fun _ _ x => x)
    obtain ⟨hr, q2⟩ := q2
    subst hr
    wp_walk
    exact ⟨rfl, i + 1, hrest, h1, q2⟩
  case fin =>
    rintro ⟨b1, b2⟩ s' ⟨hb', i, hz, hi, hI⟩
    simp only at hb'
    subst hb'
    have hR : R (.ok (.ret (.bool false))) s' := fin s' hI
    wp_walk
    simpa [Builtin.Tuple.tupleCompareSizes, hsz] using hR
  case h =>
    exact ⟨rfl, 0, rfl, Nat.zero_le _, h0⟩
end
section
variable {X : Cx} {n : Nat} {D : Eqv}
/-- != of two tuples that are equal item by item -/
def rNeG (K : PySem.W.Frag) (D : Eqv) : R2 := fun x y H Q => DTup K D x y H ∧ ∀ H', Ext H H' → Q (.bl false) H'
theorem op_neG (hD : Mon D) (h : EqG X n D) (hr : Room (n + 1) X.A) : OpR X (compareOp .NotEq) (rNeG X.K D) := by
  intro pins s σ H x y v u Q I rx ry hq
  obtain ⟨⟨a, b, xs, ys, rfl, rfl, ha, hb, p⟩, q⟩ := hq
  cases rx
  cases ry
  show wpAny (model X.prog X.w) X.A (richCompare .NotEq (.ref a) (.ref b)) (EP X pins σ Q) X.xe s
  obtain ⟨its, r, e, z⟩ := I.tuple ha
  obtain ⟨its2, r2, e2, z2⟩ := I.tuple hb
  have hsz : its.toArray.size = its2.toArray.size := by rw [List.size_toArray, List.size_toArray, ← r.length, ← r2.length]; exact p.1
  obtain ⟨⟨cls, dd, data, sl⟩, ho, hc, n1, hd⟩ := id e
  obtain ⟨⟨cls2, dd2, data2, sl2⟩, ho2, hc2, n2, hd2⟩ := id e2
  simp only at hc hd hc2 hd2
  subst hc hd hc2 hd2
  refine wpAny_richCompare_same_room (op := .NotEq) ⟨_, ho, rfl⟩ ⟨_, ho2, rfl⟩ F.slot_tuple_ne (GQ.call_here F.slot_tuple_ne ⟨_, ho, rfl⟩ F.entry_tuple_ne (F.args_tuple_ne_2 _ _) ?_) hr.units0
  exact tuple_neG (R := wants (fun v s' => v ≠ .notImplemented ∧ EP X pins σ Q v s') X.xe) a b its.toArray its2.toArray n1 n2 dd dd2 sl sl2 hsz (fun s' => LoopI X pins σ H s') (fun i h1 h2 s' l => turnG hD h ⟨hr, rfl⟩ p r r2 i h1 h2 s' l) (fun s' ⟨H', I', e⟩ => ⟨(fun x => nomatch x), .bl false, H', I', rfl, q H' e⟩) ho ho2 ⟨H, I, Ext.rfl'⟩
end
end My

/-! My own rules: tuple(zip(a, b)) of two tuples. -/
namespace My
open PySem PySem.Spec PyProof.Rows L2 RZ
section
open PySem PySem.W
variable {prog : Program} {w : World} {A : Around} {E : Value → Shared → Prop} {s : Shared}
theorem zipT_item_held {z TI TO T i1 i2 l1 l2 : Addr} {f : Bool} {oT : Obj} {k1 k2 : Nat} {xs ys : Array Value} {x y : Value} {Q : Value → Shared → Prop} (D : ZipApart z TI TO i1 i2 l1 l2)
    (hz : IsZipHeld s.heap z TI TO T f) (hT : s.heap.get? T = some oT) (hTI : IsPair s.heap TI (.ref i1) (.ref i2))
    (h1 : s.heap.IsTupleIter i1 l1 k1) (h2 : s.heap.IsTupleIter i2 l2 k2) (hl1 : s.heap.IsTuple l1 xs) (hl2 : s.heap.IsTuple l2 ys) (hx : xs[k1]? = some x) (hy : ys[k2]? = some y)
    (hQ : ∀ h', IsZipHeld h' z TI TO T true → h'.IsTupleIter i1 l1 (k1 + 1) → h'.IsTupleIter i2 l2 (k2 + 1) → IsPair h' s.heap.objs.size x y → h'.objs.size = s.heap.objs.size + 1 →
      (∀ c o, c ≠ z → c ≠ i1 → c ≠ i2 → s.heap.get? c = some o → h'.get? c = some o) → Q (.ref s.heap.objs.size) { s with heap := h' }) :
    wpAny (model prog w) A (Builtin.«zip.__next__» ⟨[.ref z], []⟩) (fun fin s' => ∃ v, fin = .done (.ret v) ∧ Q v s') E s := by
  show wpAny _ _ (field (.ref z) 2 >>= _) _ _ _
  refine wpAny_bind (wpAny_field hz rfl (x := .bool false) rfl ?_)
  show wpAny _ _ (field (.ref z) 3 >>= _) _ _ _
  refine wpAny_bind (wpAny_field hz rfl (x := .ref TI) rfl ?_)
  refine wpAny_bind (wpAny_seqItems hTI rfl ?_)
  show wpAny _ _ (Builtin.SmallTypes.ownedTupleIsFree (.ref z) >>= _) _ _ _
  refine wpAny_bind (wpAny_tupleHeld_zip hz hT fun h₁ hz₁ hs₁ => ?_)
  simp only [Bool.false_eq_true, if_false]
  refine wpAny_bind ?_
  rw [← Array.forIn_toList]
  simp only [List.forIn_cons, List.forIn_nil]
  refine wpAny_bind (wpAny_bind (wpAny_holding ?_))
  show wpAny _ _ (Builtin.SmallTypes.nextOf (.ref i1) >>= _) _ _ _
  refine wpAny_bind (nextOf_tuple_item (s := { s with heap := h₁ }) (h1.extBut hs₁.extBut D.i1z) (hl1.extBut hs₁.extBut D.l1z) hx fun h₂ h1₂ hs₂ => wpAny_pure ?_)
  refine wpAny_pure ?_
  refine wpAny_bind (wpAny_bind (wpAny_holding ?_))
  show wpAny _ _ (Builtin.SmallTypes.nextOf (.ref i2) >>= _) _ _ _
  refine wpAny_bind (nextOf_tuple_item (s := { s with heap := h₂ }) ((h2.extBut hs₁.extBut D.i2z).extBut hs₂.extBut D.i12.symm) ((hl2.extBut hs₁.extBut D.l2z).extBut hs₂.extBut D.l2i1) hy fun h₃ h2₃ hs₃ => wpAny_pure ?_)
  refine wpAny_pure (wpAny_pure ?_)
  show wpAny _ _ (newTuple [x, y] >>= _) _ _ _
  refine wpAny_bind (wpAny_newTuple ?_)
  have hsz : h₃.objs.size = s.heap.objs.size := by rw [hs₃.1, hs₂.1, hs₁.1]
  have hz₃ : IsZipHeld h₃ z TI TO T true := hs₃.extBut _ _ D.i2z.symm (hs₂.extBut _ _ D.i1z.symm hz₁)
  have hk : ∀ c o, c ≠ z → c ≠ i1 → c ≠ i2 → s.heap.get? c = some o → h₃.get? c = some o := fun c o c1 c2 c3 e => hs₃.extBut _ _ c3 (hs₂.extBut _ _ c2 (hs₁.extBut _ _ c1 e))
  have h1₃ : h₃.IsTupleIter i1 l1 (k1 + 1) := h1₂.extBut hs₃.extBut D.i12
  refine wpAny_pure ⟨_, rfl, ?_⟩
  show Q (.ref h₃.objs.size) _
  have hp : IsPair (h₃.push { cls := .type "tuple", data := .seq #[x, y] }) h₃.objs.size x y := Heap.get?_push_size _ rfl
  have hz4 : (h₃.push { cls := .type "tuple", data := .seq #[x, y] }).objs.size = h₃.objs.size + 1 := Heap.size_push ..
  rw [hsz] at hp hz4 ⊢
  exact hQ _ (Heap.get?_push_of_some _ hz₃) (h1₃.at fun o e => Heap.get?_push_of_some _ e) (h2₃.at fun o e => Heap.get?_push_of_some _ e) hp hz4 fun c o c1 c2 c3 e => Heap.get?_push_of_some _ (hk c o c1 c2 c3 e)
theorem zipT_end_held {z TI TO T i1 i2 l1 l2 : Addr} {f : Bool} {oT : Obj} {k1 k2 : Nat} {xs ys : Array Value} {Q : Fin → Shared → Prop} (hh : A.handled = none) (D : ZipApart z TI TO i1 i2 l1 l2)
    (hz : IsZipHeld s.heap z TI TO T f) (hT : s.heap.get? T = some oT) (hTI : IsPair s.heap TI (.ref i1) (.ref i2))
    (h1 : s.heap.IsTupleIter i1 l1 k1) (h2 : s.heap.IsTupleIter i2 l2 k2) (hl1 : s.heap.IsTuple l1 xs) (hl2 : s.heap.IsTuple l2 ys) (hend : xs[k1]? = none ∨ ys[k2]? = none)
    (hE : ∀ h' e, (∀ c o, c ≠ z → c ≠ i1 → c ≠ i2 → s.heap.get? c = some o → h'.get? c = some o) → (∃ o, h'.get? e = some o ∧ o.cls = .type "StopIteration") → E (.ref e) { s with heap := h' }) :
    wpAny (model prog w) A (Builtin.«zip.__next__» ⟨[.ref z], []⟩) Q E s := by
  show wpAny _ _ (field (.ref z) 2 >>= _) _ _ _
  refine wpAny_bind (wpAny_field hz rfl (x := .bool false) rfl ?_)
  show wpAny _ _ (field (.ref z) 3 >>= _) _ _ _
  refine wpAny_bind (wpAny_field hz rfl (x := .ref TI) rfl ?_)
  refine wpAny_bind (wpAny_seqItems hTI rfl ?_)
  show wpAny _ _ (Builtin.SmallTypes.ownedTupleIsFree (.ref z) >>= _) _ _ _
  refine wpAny_bind (wpAny_tupleHeld_zip hz hT fun h₁ hz₁ hs₁ => ?_)
  simp only [Bool.false_eq_true, if_false]
  refine wpAny_bind ?_
  rw [← Array.forIn_toList]
  simp only [List.forIn_cons, List.forIn_nil]
  refine wpAny_bind (wpAny_bind (wpAny_holding ?_))
  show wpAny _ _ (Builtin.SmallTypes.nextOf (.ref i1) >>= _) _ _ _
  cases hx : xs[k1]? with
  | none =>
    refine wpAny_bind (nextOf_tuple_end (s := { s with heap := h₁ }) hh (h1.extBut hs₁.extBut D.i1z) (hl1.extBut hs₁.extBut D.l1z) hx fun h₂ e hs₂ he => ?_)
    exact hE h₂ e (fun c o c1 c2 _ x => hs₂ _ _ c2 (hs₁.extBut _ _ c1 x)) he
  | some x =>
    have hy : ys[k2]? = none := by rcases hend with h | h; rw [hx] at h; cases h; exact h
    refine wpAny_bind (nextOf_tuple_item (s := { s with heap := h₁ }) (h1.extBut hs₁.extBut D.i1z) (hl1.extBut hs₁.extBut D.l1z) hx fun h₂ h1₂ hs₂ => wpAny_pure ?_)
    refine wpAny_pure ?_
    refine wpAny_bind (wpAny_bind (wpAny_holding ?_))
    show wpAny _ _ (Builtin.SmallTypes.nextOf (.ref i2) >>= _) _ _ _
    refine wpAny_bind (nextOf_tuple_end (s := { s with heap := h₂ }) hh ((h2.extBut hs₁.extBut D.i2z).extBut hs₂.extBut D.i12.symm) ((hl2.extBut hs₁.extBut D.l2z).extBut hs₂.extBut D.l2i1) hy fun h₃ e hs₃ he => ?_)
    exact hE h₃ e (fun c o c1 c2 c3 x => hs₃ _ _ c3 (hs₂.extBut _ _ c2 (hs₁.extBut _ _ c1 x))) he
theorem pyNext_zipT_item_held {z TI TO T i1 i2 l1 l2 : Addr} {f : Bool} {oT : Obj} {k1 k2 : Nat} {xs ys : Array Value} {x y : Value} {Q : Option Value → Shared → Prop} (D : ZipApart z TI TO i1 i2 l1 l2)
    (hz : IsZipHeld s.heap z TI TO T f) (hT : s.heap.get? T = some oT) (hTI : IsPair s.heap TI (.ref i1) (.ref i2))
    (h1 : s.heap.IsTupleIter i1 l1 k1) (h2 : s.heap.IsTupleIter i2 l2 k2) (hl1 : s.heap.IsTuple l1 xs) (hl2 : s.heap.IsTuple l2 ys) (hx : xs[k1]? = some x) (hy : ys[k2]? = some y)
    (hQ : ∀ h', IsZipHeld h' z TI TO T true → h'.IsTupleIter i1 l1 (k1 + 1) → h'.IsTupleIter i2 l2 (k2 + 1) → IsPair h' s.heap.objs.size x y → h'.objs.size = s.heap.objs.size + 1 →
      (∀ c o, c ≠ z → c ≠ i1 → c ≠ i2 → s.heap.get? c = some o → h'.get? c = some o) → Q (some (.ref s.heap.objs.size)) { s with heap := h' }) :
    wpAny (model prog w) A (pyNext (.ref z)) Q E s := by
  have hTy : s.TypeIs (.ref z) "zip" := ⟨_, hz, rfl⟩
  unfold pyNext
  exact wpAny_bind (wpAny_attempt (wpAny_callSpecial?_slot (name := Str.ofString "__next__") hTy F.slot_zip_next
    (wpAny_call_entry F.slot_zip_next hTy F.entry_zip_next
      (zipT_item_held D hz hT hTI h1 h2 hl1 hl2 hx hy fun h' a1 a3 a4 a5 a6 a7 => wpAny_pure (hQ h' a1 a3 a4 a5 a6 a7)) (F.args_zip_next_1 _))))
theorem pyNext_zipT_end_held {z TI TO T i1 i2 l1 l2 : Addr} {f : Bool} {oT : Obj} {k1 k2 : Nat} {xs ys : Array Value} {Q : Option Value → Shared → Prop} (hh : A.handled = none) (D : ZipApart z TI TO i1 i2 l1 l2)
    (hz : IsZipHeld s.heap z TI TO T f) (hT : s.heap.get? T = some oT) (hTI : IsPair s.heap TI (.ref i1) (.ref i2))
    (h1 : s.heap.IsTupleIter i1 l1 k1) (h2 : s.heap.IsTupleIter i2 l2 k2) (hl1 : s.heap.IsTuple l1 xs) (hl2 : s.heap.IsTuple l2 ys) (hend : xs[k1]? = none ∨ ys[k2]? = none)
    (hQ : ∀ h', (∀ c o, c ≠ z → c ≠ i1 → c ≠ i2 → s.heap.get? c = some o → h'.get? c = some o) → Q none { s with heap := h' }) : wpAny (model prog w) A (pyNext (.ref z)) Q E s := by
  have hTy : s.TypeIs (.ref z) "zip" := ⟨_, hz, rfl⟩
  unfold pyNext
  refine wpAny_bind (wpAny_attempt (wpAny_callSpecial?_slot (name := Str.ofString "__next__") hTy F.slot_zip_next
    (wpAny_call_entry F.slot_zip_next hTy F.entry_zip_next (zipT_end_held hh D hz hT hTI h1 h2 hl1 hl2 hend fun h' e hk he => ?_) (F.args_zip_next_1 _))))
  obtain ⟨o, ho, hc⟩ := he
  refine wpAny_bind (wpAny_isInstance (T := "StopIteration") (b := true) ⟨o, ho, hc⟩ isSubtype_stop ?_)
  exact wpAny_pure (hQ _ hk)
end
/-- the zip at turn i; the list that takes its tuples is at d -/
def ZSt (h : Heap) (z TI TO i1 i2 a b d : Addr) (i : Nat) : Prop := IsPair h TI (.ref i1) (.ref i2) ∧ h.IsTupleIter i1 a i ∧ h.IsTupleIter i2 b i ∧
  ((IsZip h z TI TO .none ∧ ∃ x y, IsPair h TO x y) ∨ ∃ T f oT, IsZipHeld h z TI TO T f ∧ h.get? T = some oT ∧ T ≠ z ∧ T ≠ i1 ∧ T ≠ i2 ∧ T ≠ d)
section
open PySem PySem.W
variable {prog : Program} {w : World} {A : Around} {E : Value → Shared → Prop} {s : Shared}
theorem zst_item {z TI TO i1 i2 a b d : Addr} {i : Nat} {xs ys : Array Value} {u v : Value} {Q : Option Value → Shared → Prop} (D : ZipApart z TI TO i1 i2 a b) (st : ZSt s.heap z TI TO i1 i2 a b d i) (p : s.heap.IsTuple a xs) (p2 : s.heap.IsTuple b ys) (hx : xs[i]? = some u) (hy : ys[i]? = some v) (hd : d < s.heap.objs.size)
    (hQ : ∀ h', ZSt h' z TI TO i1 i2 a b d (i + 1) → IsPair h' s.heap.objs.size u v → h'.objs.size = s.heap.objs.size + 1 → (∀ c o, c ≠ z → c ≠ TO → c ≠ i1 → c ≠ i2 → s.heap.get? c = some o → h'.get? c = some o) → Q (some (.ref s.heap.objs.size)) { s with heap := h' }) :
    wpAny (model prog w) A (pyNext (.ref z)) Q E s := by
  obtain ⟨hTI, h1, h2, hz⟩ := st
  have lt : ∀ {c o}, s.heap.get? c = some o → s.heap.objs.size ≠ c := fun e => Nat.ne_of_gt (Heap.lt_size e)
  have n1 : s.heap.objs.size ≠ i1 := let ⟨_, e, _⟩ := h1; lt e
  have n2 : s.heap.objs.size ≠ i2 := let ⟨_, e, _⟩ := h2; lt e
  rcases hz with ⟨hz, x, y, hTO⟩ | ⟨T, f, oT, hz, hT, r1, r2, r3, r4⟩
  · refine pyNext_zipT_item D hz hTI hTO h1 h2 p p2 hx hy fun h' a1 a2 a3 a4 a5 a6 hk => ?_
    exact hQ h' ⟨hk _ _ D.TIz D.TITO D.TIi1 D.TIi2 hTI, a3, a4, .inr ⟨s.heap.objs.size, false, _, a1, a5, lt hz, n1, n2, Nat.ne_of_gt hd⟩⟩ a5 a6 hk
  · refine pyNext_zipT_item_held D hz hT hTI h1 h2 p p2 hx hy fun h' a1 a3 a4 a5 a6 hk => ?_
    exact hQ h' ⟨hk _ _ D.TIz D.TIi1 D.TIi2 hTI, a3, a4, .inr ⟨T, true, oT, a1, hk _ _ r1 r2 r3 hT, r1, r2, r3, r4⟩⟩ a5 a6 fun c o c1 _ c3 c4 e => hk c o c1 c3 c4 e
theorem zst_done {z TI TO i1 i2 a b d : Addr} {i : Nat} {xs ys : Array Value} {Q : Option Value → Shared → Prop} (hh : A.handled = none) (D : ZipApart z TI TO i1 i2 a b) (st : ZSt s.heap z TI TO i1 i2 a b d i) (p : s.heap.IsTuple a xs) (p2 : s.heap.IsTuple b ys) (he : xs[i]? = none ∨ ys[i]? = none)
    (hQ : ∀ h', (∀ c o, c ≠ z → c ≠ TO → c ≠ i1 → c ≠ i2 → s.heap.get? c = some o → h'.get? c = some o) → Q none { s with heap := h' }) :
    wpAny (model prog w) A (pyNext (.ref z)) Q E s := by
  obtain ⟨hTI, h1, h2, hz⟩ := st
  rcases hz with ⟨hz, x, y, hTO⟩ | ⟨T, f, oT, hz, hT, r1, r2, r3, r4⟩
  · exact pyNext_zipT_end hh D hz hTI hTO h1 h2 p p2 he fun h' hk => hQ h' hk
  · exact pyNext_zipT_end_held hh D hz hT hTI h1 h2 p p2 he fun h' hk => hQ h' fun c o c1 _ c3 c4 e => hk c o c1 c3 c4 e
theorem ZSt.on {h h' : Heap} {z TI TO i1 i2 a b d : Addr} {i : Nat} (st : ZSt h z TI TO i1 i2 a b d i) (D : ZipApart z TI TO i1 i2 a b) (hd : d ≠ z ∧ d ≠ TI ∧ d ≠ TO ∧ d ≠ i1 ∧ d ≠ i2) (k : ∀ c o, c ≠ d → h.get? c = some o → h'.get? c = some o) : ZSt h' z TI TO i1 i2 a b d i := by
  obtain ⟨hTI, h1, h2, hz⟩ := st
  obtain ⟨d1, d2, d3, d4, d5⟩ := hd
  refine ⟨k _ _ (Ne.symm d2) hTI, h1.at fun o e => k _ o (Ne.symm d4) e, h2.at fun o e => k _ o (Ne.symm d5) e, ?_⟩
  rcases hz with ⟨hz, x, y, hTO⟩ | ⟨T, f, oT, hz, hT, r1, r2, r3, r4⟩
  · exact .inl ⟨k _ _ (Ne.symm d1) hz, x, y, k _ _ (Ne.symm d3) hTO⟩
  · exact .inr ⟨T, f, oT, k _ _ (Ne.symm d1) hz, k _ _ r4 hT, r1, r2, r3, r4⟩
end
/-- the pairs that stand so far -/
def Zs (H : Hp) (xs ys : List V) (ts : List Addr) : Prop := ∀ (j : Nat) t x y, ts[j]? = some t → xs[j]? = some x → ys[j]? = some y → H t = some (.tup [x, y])
theorem Zs.on {H H' : Hp} {xs ys : List V} {ts : List Addr} (r : Zs H xs ys ts) (s : Same H H') : Zs H' xs ys ts := fun j t x y h1 h2 h3 => s _ _ (r j t x y h1 h2 h3)
theorem sqT_on {K : PySem.W.Frag} {H H' : Hp} {a : Addr} {xs : List V} (e : Same H H') (h : SqT K H a xs) : SqT K H' a xs := by
  rcases h with (h | ⟨o, h⟩) | h
  · exact .inl (.inl (e _ _ h))
  · exact .inl (.inr ⟨o, e _ _ h⟩)
  · exact .inr h
theorem nolen_zip : typeLookup (.type "zip") "__len__" = pure none := by rw [typeLookup_type, builtinLookup_eq_fast]; kernel_rfl
theorem hint_zip : typeLookup (.type "zip") "__length_hint__" = pure none := by rw [typeLookup_type, builtinLookup_eq_fast]; kernel_rfl
section
variable {X : Cx} {pins : List (Addr × Obj)} {σ : L2.St}
theorem ext_zip {A : Around} {R : Result → Shared → Prop} {S z TI TO i1 i2 a b : Addr} {res : Value} (hh : A.in1.handled = none) (D : ZipApart z TI TO i1 i2 a b) (hS : S ≠ z ∧ S ≠ TI ∧ S ≠ TO ∧ S ≠ i1 ∧ S ≠ i2) {xs ys : List V} (hl : xs.length = ys.length) (hn : xs.length ≤ sizeLine) :
    ∀ (k i : Nat) (s : Shared) (H : Hp) (acc : Array Value) (c : Nat) (ts : List Addr), xs.length - i = k → i ≤ xs.length → Inv X pins σ H s → SqT X.K H a xs → SqT X.K H b ys → ZSt s.heap z TI TO i1 i2 a b S i →
      (∀ c ∈ [S, z, TO, i1, i2], FpOk X pins H c ∧ c < s.heap.objs.size) → s.heap.get? S = some { cls := .type "list", dict := none, data := .seq acc c, slots := #[] } → acc.toList = ts.map Value.ref → ts.length = i → Zs H xs ys ts →
      (∀ (s' : Shared) (H' : Hp) (acc' : Array Value) (c' : Nat) (ts' : List Addr), Inv X pins σ H' s' → Same H H' → s'.heap.get? S = some { cls := .type "list", dict := none, data := .seq acc' c', slots := #[] } → acc'.toList = ts'.map Value.ref → ts'.length = xs.length → Zs H' xs ys ts' → R (.ok (.ret res)) s') →
      codeAny (model X.prog X.w) A (.builtin "list.extend.loop" ⟨[.ref S, .ref z, res], []⟩) R s := by
  intro k
  induction k with
  | zero =>
    intro i s H acc c ts hk hi I qa qb st hf hL ha ht hz hR
    have hin : i = xs.length := by omega
    subst hin
    refine codeAny_builtin F.entry_extend_loop ?_
    rw [Around.under_plainId F.plain_extend_loop _]
    show wpAny _ A.in1 (pyNext (.ref z) >>= _) _ _ s
    obtain ⟨its, rv, p, _⟩ := I.tuple qa
    obtain ⟨its2, rv2, p2, _⟩ := I.tuple qb
    have l1 := rv.length
    refine wpAny_bind (zst_done hh D st p p2 (.inl (by simp; omega)) fun h' hk' => wpAny_pure ?_)
    exact hR { s with heap := h' } H acc c ts (I.turnedL (t' := s.toks) (ch := [z, TO, i1, i2]) (fun c o hb q => hk' c o (fun e => hb (by simp [e])) (fun e => hb (by simp [e])) (fun e => hb (by simp [e])) (fun e => hb (by simp [e])) q)
        (fun c hc => (hf c (List.mem_cons_of_mem _ hc)).1)) (fun _ _ e => e) (hk' S _ hS.1 hS.2.2.1 hS.2.2.2.1 hS.2.2.2.2 hL) ha ht hz
  | succ k ih =>
    intro i s H acc c ts hk hi I qa qb st hf hL ha ht hz hR
    have hlt : i < xs.length := by omega
    refine codeAny_builtin F.entry_extend_loop ?_
    rw [Around.under_plainId F.plain_extend_loop _]
    show wpAny _ A.in1 (pyNext (.ref z) >>= _) _ _ s
    obtain ⟨its, rv, p, _⟩ := I.tuple qa
    obtain ⟨its2, rv2, p2, _⟩ := I.tuple qb
    have hx : xs[i]? = some xs[i] := List.getElem?_eq_getElem hlt
    have hy : ys[i]? = some (ys[i]'(by omega)) := List.getElem?_eq_getElem (by omega)
    obtain ⟨u, hu, ru⟩ := rv.get hx
    obtain ⟨u2, hu2, ru2⟩ := rv2.get hy
    have fl : ∀ c ∈ [S, z, TO, i1, i2], c ≠ s.heap.objs.size := fun c hc => Nat.ne_of_lt (hf c hc).2
    have hsz0 : acc.size = i := by rw [← Array.length_toList, ha, List.length_map, ht]
    refine wpAny_bind (zst_item D st p p2 (u := u) (v := u2) (by simpa using hu) (by simpa using hu2) (hf S List.mem_cons_self).2 fun h' st' hT hsz hk' => ?_)
    have hL' := hk' S _ hS.1 hS.2.2.1 hS.2.2.2.1 hS.2.2.2.2 hL
    show wpAny _ A.in1 (updateSeq S (·.push (.ref s.heap.objs.size)) >>= _) _ _ _
    refine wpAny_bind ?_
    have new : ObjOk X.prog X.w (upd H s.heap.objs.size (.tup [xs[i], ys[i]'(by omega)])) h' s.heap.objs.size (.tup [xs[i], ys[i]'(by omega)]) :=
      ⟨by show 2 ≤ sizeLine; decide, [u, u2], .cons ru (.cons ru2 .nil), ⟨_, hT, rfl, _, rfl⟩⟩
    have I1 : Inv X pins σ (upd H s.heap.objs.size (.tup [xs[i], ys[i]'(by omega)])) { s with heap := h' } :=
      I.turnedNew (t' := s.toks) (ch := [z, TO, i1, i2]) (fun c o hb q => hk' c o (fun e => hb (by simp [e])) (fun e => hb (by simp [e])) (fun e => hb (by simp [e])) (fun e => hb (by simp [e])) q) (fun c hc => (hf c (List.mem_cons_of_mem _ hc)).1) (Nat.le_refl _) new
    have hnone : H s.heap.objs.size = none := I.hok.fresh (Nat.le_refl _)
    have sm : Same H (upd H s.heap.objs.size (.tup [xs[i], ys[i]'(by omega)])) := same_upd hnone
    have hf1 : ∀ c ∈ [S, z, TO, i1, i2], FpOk X pins (upd H s.heap.objs.size (.tup [xs[i], ys[i]'(by omega)])) c := fun c hc => by
      obtain ⟨q, r⟩ := (hf c hc).1
      exact ⟨by rw [upd_ne (fl c hc)]; exact q, r⟩
    refine wpAny_updateSeq hL' rfl (wpAny_pure ⟨plainId_quiet F.plain_extend_loop _, ih (i + 1) _ (upd H s.heap.objs.size (.tup [xs[i], ys[i]'(by omega)])) (acc.push (.ref s.heap.objs.size)) _ (ts ++ [s.heap.objs.size]) (by omega) hlt
      (I1.turnedL (t' := s.toks) (ch := [S]) (fun c o hb q => (Heap.get?_update_other _ _ (fun e : S = c => hb (by simp [e]))).trans q) (fun c hc => hf1 c (by rw [List.mem_singleton.mp hc]; exact List.mem_cons_self)))
      (sqT_on sm qa) (sqT_on sm qb) (st'.on D hS fun c o hc q => (Heap.get?_update_other _ _ (Ne.symm hc)).trans q) (fun c hc => ⟨hf1 c hc, ?_⟩) (Heap.get?_update_self _ hL' rfl) (by rw [Array.toList_push, ha, List.map_append]; rfl) (by rw [List.length_append, ht]; rfl) (fun j t x y h1 h2 h3 => ?_) fun s' H' acc' c' ts' I' sm' => hR s' H' acc' c' ts' I' (sm.trans sm')⟩)
      (by rw [hsz0]; omega) (by show (acc.push _).size ≤ sizeLine + 1; rw [Array.size_push, hsz0]; omega)
    · have h1 := (hf c hc).2
      show c < ((h'.update S _).objs.size)
      rw [Heap.size_update, hsz]
      exact Nat.lt_succ_of_lt h1
    · by_cases hj : j < ts.length
      · rw [List.getElem?_append_left hj] at h1
        exact sm _ _ (hz j t x y h1 h2 h3)
      · have hj' := (List.getElem?_eq_some_iff.mp h1).1
        rw [List.length_append, List.length_singleton] at hj'
        have e1 : j = i := by omega
        subst e1
        rw [List.getElem?_append_right (by omega), show j - ts.length = 0 by omega] at h1
        rw [hx] at h2
        rw [hy] at h3
        have e1 : s.heap.objs.size = t := Option.some.inj h1
        rw [← Option.some.inj h2, ← Option.some.inj h3, ← e1]
        exact upd_same

theorem collect_zip {A : Around} {E : Value → Shared → Prop} {s : Shared} {H : Hp} {z TI TO i1 i2 a b : Addr} {x0 y0 : Value} {xs ys : List V} {Q : List Value → Shared → Prop} (hh : A.handled = none) (D : ZipApart z TI TO i1 i2 a b) (hl : xs.length = ys.length) (hn : xs.length ≤ sizeLine)
    (I : Inv X pins σ H s) (qa : SqT X.K H a xs) (qb : SqT X.K H b ys) (hz : IsZip s.heap z TI TO .none) (hTI : IsPair s.heap TI (.ref i1) (.ref i2)) (hTO : IsPair s.heap TO x0 y0) (h1 : s.heap.IsTupleIter i1 a 0) (h2 : s.heap.IsTupleIter i2 b 0)
    (hf : ∀ c ∈ [z, TO, i1, i2], FpOk X pins H c) (hQ : ∀ (s' : Shared) (H' : Hp) (ts : List Addr), Inv X pins σ H' s' → Same H H' → ts.length = xs.length → Zs H' xs ys ts → Q (ts.map Value.ref) s') :
    wpAny (model X.prog X.w) A (collect (.ref z)) Q E s := by
  obtain ⟨oi1, ho1, hc1, hd1⟩ := id h1
  obtain ⟨oi2, ho2, hc2, hd2⟩ := id h2
  have lt : ∀ {c o}, s.heap.get? c = some o → s.heap.objs.size ≠ c := fun e => Nat.ne_of_gt (Heap.lt_size e)
  have hS : s.heap.objs.size ≠ z ∧ s.heap.objs.size ≠ TI ∧ s.heap.objs.size ≠ TO ∧ s.heap.objs.size ≠ i1 ∧ s.heap.objs.size ≠ i2 := ⟨lt hz, lt hTI, lt hTO, lt ho1, lt ho2⟩
  have hSf : FpOk X pins H s.heap.objs.size := I.fpOk (Nat.le_refl _) (I.hok.fresh (Nat.le_refl _))
  unfold collect
  refine wpAny_bind (wpAny_runValue (codeAny_builtin F.entry_proto_collect ?_))
  rw [Around.under_plainId F.plain_proto_collect _]
  show wpAny _ A.in1 (newList [] >>= fun l' => again (.builtin "list.__iadd__" ⟨[l', .ref z], []⟩)) _ _ s
  refine wpAny_bind (wpAny_newObj_type ?_)
  refine wpAny_pure ⟨plainId_quiet F.plain_list_iadd _, codeAny_builtin F.entry_list_iadd ?_⟩
  rw [Around.under_plainId F.plain_list_iadd _]
  have hz1 : IsZip (s.heap.push { cls := .type "list", data := .seq ([] : List Value).toArray }) z TI TO .none := Heap.get?_push_of_some _ hz
  have hT1 : ({ s with heap := s.heap.push { cls := .type "list", data := .seq ([] : List Value).toArray } } : Shared).TypeIs (.ref z) "zip" := ⟨_, hz1, rfl⟩
  show wpAny _ A.in1 (Builtin.List.listExtendWith (.ref s.heap.objs.size) (.ref z) (.ref s.heap.objs.size)) _ _ _
  unfold Builtin.List.listExtendWith
  refine wpAny_bind (wpAny_typeOf hT1 ?_)
  have e1 : Builtin.List.listSameRef (.ref s.heap.objs.size) (.ref z) = false := by simp [Builtin.List.listSameRef, hS.1]
  have e2 : (Value.type "zip" == Value.type "list") = false := by decide
  have e3 : (Value.type "zip" == Value.type "tuple") = false := by decide
  simp only [e1, e2, e3, Bool.or_false, Bool.false_eq_true, if_false]
  refine wpAny_bind (wpAny_pyIter_zip (s := { s with heap := s.heap.push { cls := .type "list", data := .seq ([] : List Value).toArray } }) hz1 ?_)
  refine wpAny_bind (wpAny_holding ?_)
  unfold Builtin.List.listLengthHint
  refine wpAny_bind (wpAny_specialOf hT1 nolen_zip ?_)
  show wpAny _ A.in1 (specialOf (Value.ref z) (Str.ofString "__length_hint__") >>= _) _ _ _
  refine wpAny_bind (wpAny_specialOf hT1 hint_zip ?_)
  refine wpAny_pure ?_
  show wpAny _ A.in1 (rule "list.extend.makes-room" >>= fun _ => Builtin.List.listTouch (.ref s.heap.objs.size) >>= fun _ =>
    again (.builtin "list.extend.loop" ⟨[.ref s.heap.objs.size, .ref z, .ref s.heap.objs.size], []⟩)) _ _ _
  refine wpAny_bind (wpAny_rule ?_)
  have hS₁ : (s.heap.push { cls := .type "list", data := .seq ([] : List Value).toArray }).get? s.heap.objs.size = some { cls := .type "list", data := .seq ([] : List Value).toArray } := Heap.get?_push_size _ rfl
  refine wpAny_bind ?_
  show wpAny _ A.in1 (updateSeq s.heap.objs.size (·.push .none) >>= fun _ => updateSeq s.heap.objs.size (·.pop)) _ _ _
  refine wpAny_bind (wpAny_updateSeq hS₁ rfl ?_)
  have hS₂ := Heap.get?_update_self (Obj.mapSeq (·.push Value.none)) hS₁ rfl
  refine wpAny_updateSeq hS₂ rfl ?_
  have hS₃ := Heap.get?_update_self (Obj.mapSeq (·.pop)) hS₂ rfl
  have oth : ∀ b o, b ≠ s.heap.objs.size → s.heap.get? b = some o →
      (((s.heap.push { cls := .type "list", data := .seq ([] : List Value).toArray }).update s.heap.objs.size (Obj.mapSeq (·.push Value.none))).update s.heap.objs.size (Obj.mapSeq (·.pop))).get? b = some o :=
    fun b o hb e => (Heap.get?_update_other _ _ (Ne.symm hb)).trans ((Heap.get?_update_other _ _ (Ne.symm hb)).trans (Heap.get?_push_of_some _ e))
  have I1 : Inv X pins σ H { s with heap := ((s.heap.push { cls := .type "list", data := .seq ([] : List Value).toArray }).update s.heap.objs.size (Obj.mapSeq (·.push Value.none))).update s.heap.objs.size (Obj.mapSeq (·.pop)) } :=
    I.turnedL (t' := s.toks) (ch := [s.heap.objs.size]) (fun b o hb e => oth b o (fun q => hb (by simp [q])) e) (fun c hc => by rw [List.mem_singleton.mp hc]; exact hSf)
  have hsz : (((s.heap.push { cls := .type "list", data := .seq ([] : List Value).toArray }).update s.heap.objs.size (Obj.mapSeq (·.push Value.none))).update s.heap.objs.size (Obj.mapSeq (·.pop))).objs.size = s.heap.objs.size + 1 := by
    rw [Heap.size_update, Heap.size_update, Heap.size_push]
  refine wpAny_pure ⟨plainId_quiet F.plain_extend_loop _, ext_zip (X := X) (pins := pins) (σ := σ) (A := A) hh D hS hl hn xs.length 0 _ H _ _ [] (by omega) (Nat.zero_le _) I1 qa qb
    ⟨oth _ _ (Ne.symm hS.2.1) hTI, ⟨oi1, oth _ _ (Ne.symm hS.2.2.2.1) ho1, hc1, hd1⟩, ⟨oi2, oth _ _ (Ne.symm hS.2.2.2.2) ho2, hc2, hd2⟩, .inl ⟨oth _ _ (Ne.symm hS.1) hz, _, _, oth _ _ (Ne.symm hS.2.2.1) hTO⟩⟩ (fun c hc => ?_) hS₃ rfl rfl (fun j t x y h => by simp at h) fun s' H' acc' c' ts' I' sm hL' ha hl' hz' => ?_⟩
  · show FpOk X pins H c ∧ c < (((s.heap.push { cls := .type "list", data := .seq ([] : List Value).toArray }).update s.heap.objs.size (Obj.mapSeq (·.push Value.none))).update s.heap.objs.size (Obj.mapSeq (·.pop))).objs.size
    rw [hsz]
    rcases List.mem_cons.mp hc with rfl | hc
    · exact ⟨hSf, Nat.lt_succ_self _⟩
    · refine ⟨hf c hc, ?_⟩
      have e' : c = z ∨ c = TO ∨ c = i1 ∨ c = i2 := by simpa using hc
      refine Nat.lt_succ_of_lt ?_
      rcases e' with q | q | q | q
      · rw [q]; exact Heap.lt_size hz
      · rw [q]; exact Heap.lt_size hTO
      · rw [q]; exact Heap.lt_size ho1
      · rw [q]; exact Heap.lt_size ho2
  · show wpAny _ A (load s.heap.objs.size >>= _) _ _ s'
    refine wpAny_bind (wpAny_load hL' ?_)
    refine wpAny_pure ?_
    show Q acc'.toList s'
    rw [ha]
    exact hQ s' H' ts' I' sm hl' hz'
theorem code_tuple_new_zip {A : Around} {E : Value → Shared → Prop} {s : Shared} {H : Hp} {z TI TO i1 i2 a b : Addr} {x0 y0 : Value} {xs ys : List V} {Q₁ : Value → Shared → Prop} (hh : A.handled = none) (D : ZipApart z TI TO i1 i2 a b) (hl : xs.length = ys.length) (hn : xs.length ≤ sizeLine)
    (I : Inv X pins σ H s) (qa : SqT X.K H a xs) (qb : SqT X.K H b ys) (hz : IsZip s.heap z TI TO .none) (hTI : IsPair s.heap TI (.ref i1) (.ref i2)) (hTO : IsPair s.heap TO x0 y0) (h1 : s.heap.IsTupleIter i1 a 0) (h2 : s.heap.IsTupleIter i2 b 0)
    (hf : ∀ c ∈ [z, TO, i1, i2], FpOk X pins H c) (h : ∀ (s' : Shared) (H' : Hp) (ts : List Addr), Inv X pins σ H' s' → Same H H' → ts.length = xs.length → Zs H' xs ys ts → Q₁ (.ref s'.heap.objs.size) { s' with heap := s'.heap.push { cls := .type "tuple", data := .seq (ts.map Value.ref).toArray } }) :
    codeAny (model X.prog X.w) A (.call (.builtin "tuple.__new__") ⟨[.type "tuple", .ref z], []⟩) (wants Q₁ E) s := by
  refine codeAny_of_tree ?_
  show wpAny _ A.in1 (do checkBuiltinCall "tuple.__new__" ⟨[.type "tuple", .ref z], []⟩; again (.builtin "tuple.__new__" ⟨[.type "tuple", .ref z], []⟩)) _ _ s
  refine wpAny_bind (wpAny_of_eq (F.newCall_tuple_1 _) (wpAny_pure ⟨plainId_quiet F.plain_tuple_new _, codeAny_builtin F.entry_tuple_new ?_⟩))
  rw [Around.under_plainId F.plain_tuple_new _]
  have hsub := sub_tuple_self
  have hinit := init_tuple_lookup
  have hmh := madeHere_tuple
  have hTI' : s.TypeIs (.ref z) "zip" := ⟨_, hz, rfl⟩
  have hh1 : A.in1.handled = none := hh
  wp_walk using wpAny_typeOf hTI', collect_zip (A := A.in1) hh1 D hl hn I qa qb hz hTI hTO h1 h2 hf
  intro s' H' ts I' sm hl' hz'
  show wpAny _ _ (Builtin.Tuple.tupleExact (ts.map Value.ref).toArray >>= fun v => ret v) _ _ _
  unfold Builtin.Tuple.tupleExact
  refine wpAny_bind (wpAny_newObj_type ?_ (by show (ts.map Value.ref).toArray.size ≤ sizeLine; rw [List.size_toArray, List.length_map, hl']; exact hn))
  exact wpAny_pure (h s' H' ts I' sm hl' hz')
theorem call_tuple_zip {A : Around} {E : Value → Shared → Prop} {s : Shared} {H : Hp} {z TI TO i1 i2 a b : Addr} {x0 y0 : Value} {xs ys : List V} {Q : Value → Shared → Prop} (hh : A.handled = none) (D : ZipApart z TI TO i1 i2 a b) (hl : xs.length = ys.length) (hn : xs.length ≤ sizeLine)
    (I : Inv X pins σ H s) (qa : SqT X.K H a xs) (qb : SqT X.K H b ys) (hz : IsZip s.heap z TI TO .none) (hTI : IsPair s.heap TI (.ref i1) (.ref i2)) (hTO : IsPair s.heap TO x0 y0) (h1 : s.heap.IsTupleIter i1 a 0) (h2 : s.heap.IsTupleIter i2 b 0)
    (hf : ∀ c ∈ [z, TO, i1, i2], FpOk X pins H c) (hQ : ∀ (s' : Shared) (H' : Hp) (ts : List Addr), Inv X pins σ H' s' → Same H H' → ts.length = xs.length → Zs H' xs ys ts → Q (.ref s'.heap.objs.size) { s' with heap := s'.heap.push { cls := .type "tuple", data := .seq (ts.map Value.ref).toArray } }) :
    wpAny (model X.prog X.w) A (call (.type "tuple") [.ref z]) Q E s := by
  refine callType_codes (Q₁ := fun obj s₁ => s₁.TypeIs obj "tuple" ∧ Q obj s₁) F.called_tuple (F.typeCall_tuple_1 _) F.entry_object_init
    (code_tuple_new_zip (A := A.in1) hh D hl hn I qa qb hz hTI hTO h1 h2 hf fun s' H' ts I' sm hl' hz' => ⟨⟨_, Heap.get?_push_size _ rfl, rfl⟩, hQ s' H' ts I' sm hl' hz'⟩) fun obj s₁ h₁ => ?_
  exact ⟨h₁.1, F.args_object_init_2 obj _, object_init_meets F.called_tuple.init.lookup F.called_tuple.made (by decide) X.prog X.w A.in1 _ s₁ ⟨h₁.1, rfl, h₁.2⟩⟩
end
section
variable {X : Cx}
/-- tuple(zip(a, b)) of two tuples of one length -/
def tTupZip (K : PySem.W.Frag) (ta : TA) : TE := fun σ H Q => ta σ H fun vs H1 => ∃ a b xs ys, vs = [V.ref a, V.ref b] ∧ SqT K H1 a xs ∧ SqT K H1 b ys ∧ xs.length = ys.length ∧ xs.length ≤ sizeLine ∧
  ∀ (p : Addr) (ts : List Addr) H2, Same H1 H2 → H2 p = some (.tup (ts.map V.ref)) → ts.length = xs.length → Zs H2 xs ys ts → Q (.ref p) H2
theorem vals_refs : ∀ ts : List Addr, Vals (ts.map V.ref) (ts.map Value.ref)
  | [] => .nil
  | t :: r => .cons rfl (vals_refs r)
/-- a fresh zip of two tuples -/
def AtZip (X : Cx) (pins : List (Addr × Obj)) (σ : L2.St) (R : List V → List V → Hp → Prop) : Value → Shared → Prop := fun x s1 => ∃ (z TI TO i1 i2 a b : Addr) (x0 y0 : Value) (xs ys : List V) (H1 : Hp), x = .ref z ∧ ZipApart z TI TO i1 i2 a b ∧ Inv X pins σ H1 s1 ∧ SqT X.K H1 a xs ∧ SqT X.K H1 b ys ∧
  IsZip s1.heap z TI TO .none ∧ IsPair s1.heap TI (.ref i1) (.ref i2) ∧ IsPair s1.heap TO x0 y0 ∧ s1.heap.IsTupleIter i1 a 0 ∧ s1.heap.IsTupleIter i2 b 0 ∧ (∀ c ∈ [z, TO, i1, i2], FpOk X pins H1 c) ∧ R xs ys H1
theorem eval_zip {e e2 : Expr} {ta : TA} {p pos : Pos} {pins : List (Addr × Obj)} {σ : L2.St} {H : Hp} {s : Shared} {R : List V → List V → Hp → Prop} (hg : Gl X "zip") (hm : X.mg "zip" = none) (ha : PA X [e, e2] ta) (I : Inv X pins σ H s)
    (h : ta σ H fun vs H1 => ∃ a b xs ys, vs = [V.ref a, V.ref b] ∧ SqT X.K H1 a xs ∧ SqT X.K H1 b ys ∧ R xs ys H1)
    (hs : starEach [e, e2] X.env = (false, eval e X.env) :: starEach [e2] X.env := by rfl) (hpl : (backTo pos (starEach [e2] X.env)).any (·.1) = false := by rfl) :
    wpAny (model X.prog X.w) X.A (eval (.Call (.Name "zip" p) [e, e2] [] pos) X.env) (AtZip X pins σ R) X.xe s := by
  refine Call_ (ld_blt I hg hm PyProof.Rows.boot_zip (PyProof.Rows.callWith_type1 (thn (ha.run pos pins s σ H _ I h) fun us s1 ⟨vs, H1, I1, r1, q1⟩ => ?_) hs hpl))
  obtain ⟨a, b, xs, ys, ex, qa, qb, q⟩ := q1
  subst ex
  cases r1 with
  | cons r rr =>
    cases rr with
    | cons r' rr =>
      cases rr
      cases r
      cases r'
      obtain ⟨its, rv, p1, _⟩ := I1.tuple qa
      obtain ⟨its2, rv2, p2, _⟩ := I1.tuple qb
      obtain ⟨o1, ho1, _⟩ := id p1
      obtain ⟨o2, ho2, _⟩ := id p2
      refine call_zipT (show s1.heap.IsTuple a its.toArray from p1) (show s1.heap.IsTuple b its2.toArray from p2) fun h' hz hTI hTO h1 h2 hsz hk => ?_
      have I2 : Inv X pins σ H1 { s1 with heap := h' } := I1.kept (t' := s1.toks) hk
      refine ⟨s1.heap.objs.size + 4, s1.heap.objs.size + 2, s1.heap.objs.size + 3, s1.heap.objs.size, s1.heap.objs.size + 1, a, b, _, _, xs, ys, H1, rfl, PySem.W.ktu_apart s1.heap.objs.size a b (Heap.lt_size ho1) (Heap.lt_size ho2), I2, qa, qb, hz, hTI, hTO, h1, h2, fun c hcm => ?_, q⟩
      have e' : c = s1.heap.objs.size + 4 ∨ c = s1.heap.objs.size + 3 ∨ c = s1.heap.objs.size ∨ c = s1.heap.objs.size + 1 := by simpa using hcm
      have hle : s1.heap.objs.size ≤ c := by
        rcases e' with z | z | z | z
        · rw [z]; exact Nat.le_add_right _ _
        · rw [z]; exact Nat.le_add_right _ _
        · rw [z]; exact Nat.le_refl _
        · rw [z]; exact Nat.le_add_right _ _
      exact I1.fpOk hle (I1.hok.fresh hle)
theorem pe_tupZip {e e2 : Expr} {ta : TA} {p p2 pos pos2 : Pos} (hc : X.calm = true) (hg : Gl X "tuple") (hm : X.mg "tuple" = none) (hg2 : Gl X "zip") (hm2 : X.mg "zip" = none) (ha : PA X [e, e2] ta)
    (hs : starEach [e, e2] X.env = (false, eval e X.env) :: starEach [e2] X.env := by rfl) (hpl : (backTo pos2 (starEach [e2] X.env)).any (·.1) = false := by rfl)
    (na : starEach [.Call (.Name "zip" p2) [e, e2] [] pos2] X.env = (false, eval (.Call (.Name "zip" p2) [e, e2] [] pos2) X.env) :: starEach [] X.env := by rfl) :
    PE X (.Call (.Name "tuple" p) [.Call (.Name "zip" p2) [e, e2] [] pos2] [] pos) (tTupZip X.K ta) := by
  refine ⟨fun pins s σ H Q I h => ?_⟩
  refine Call_ (ld_blt I hg hm boot_tuple (PyProof.Rows.callWith_type1 (args_cons (thn (eval_zip (R := fun xs ys H1 => xs.length = ys.length ∧ xs.length ≤ sizeLine ∧ ∀ (p : Addr) (ts : List Addr) H2, Same H1 H2 → H2 p = some (.tup (ts.map V.ref)) → ts.length = xs.length → Zs H2 xs ys ts → Q (.ref p) H2) hg2 hm2 ha I h hs hpl) fun x s1 hx => args_nil ?_) na) na))
  obtain ⟨z, TI, TO, i1, i2, a, b, x0, y0, xs, ys, H1, rfl, D, I1, qa, qb, hz, hTI, hTO, h1, h2, hf, hl, hn, q⟩ := hx
  refine call_tuple_zip (I1.ok.hd hc) D hl hn I1 qa qb hz hTI hTO h1 h2 hf fun s' H' ts I' sm hl' hz' => ?_
  have hno : H' s'.heap.objs.size = none := I'.hok.fresh (Nat.le_refl _)
  have sm2 := same_upd (o := .tup (ts.map V.ref)) hno
  exact ⟨.ref s'.heap.objs.size, upd H' s'.heap.objs.size (.tup (ts.map V.ref)), I'.laid (t' := s'.toks) (fun b o e => Heap.get?_push_of_some _ e) (Nat.le_refl _) (show ObjOk X.prog X.w _ _ _ (.tup (ts.map V.ref)) from ⟨by rw [List.length_map, hl']; exact hn, ts.map Value.ref, vals_refs ts, IsTup.new _ _⟩), rfl,
    q _ ts _ (sm.trans sm2) upd_same hl' (hz'.on sm2)⟩
end
end My

/-! My own rules: an operator between two instances of a class that has no reflected method for it. -/
namespace My
open PySem PySem.Spec PyProof.Rows L2
structure OpN (K : PySem.W.Frag) (C : Addr) (nm : String) (f : Addr) : Prop where
  sf : PySem.W.selfFirst K C = true
  ls : PySem.W.findIn K (.ref C) (PySem.dunder nm) = some (some (.ref f))
  lf : PySem.W.isFn K (.ref f) = true
section
variable {prog : Program} {w : World} {A : Around} {Ex : Value → Shared → Prop} {s : Shared} {K : PySem.W.Frag} {C f : Addr} {nm : String}
open PySem.W
theorem b1_ownN {x y : Addr} {odx ody : Option Obj} {ox oy : Obj} {Q : Value → Shared → Prop} (X : K.In s.heap) (O : OpN K C nm f) (I : InstAt s.heap x ox C odx) (J : InstAt s.heap y oy C ody)
    (h : wpAny (model prog w) A (call (.ref f) [.ref x, .ref y]) (PySem.W.CmpBack Q) Ex s) : wpAny (model prog w) A (binaryOp1 nm (.ref x) (.ref y)) (fun r s' => ∃ v, r = some v ∧ Q v s') Ex s := by
  obtain ⟨cd, rest, hcd, hm⟩ := ksp_first O.sf
  unfold binaryOp1
  refine wpAny_bind (I.type.here (wpAny_bind (J.type.here (wpAny_bind ((fills_K X hcd hm O.ls).here ?_)))))
  simp only [beq_self_eq_true, if_true]
  refine wpAny_bind (wpAny_pure ?_)
  simp only [Bool.and_false, Bool.false_eq_true, if_false, Bool.false_and]
  refine wpAny_bind (wpAny_pure ?_)
  simp only [Bool.false_eq_true, if_false]
  refine wpAny_bind (m := tryMethod (.ref x) _ (.ref y)) (wpAny_mono (ksp_try X I O.ls O.lf h) (fun r s' hr => ?_) fun _ _ e => e)
  obtain ⟨v, rfl, hq⟩ := hr
  exact wpAny_pure ⟨v, rfl, hq⟩
end
section
variable {X : Cx} {CX : CXT} {k : Nat} {C f : Addr} {fd : FuncData} {ps : List Str} {sp : Sp} {E : XK} {op : Operator}
theorem op_nn {nm : String} (hn : op.info.2 = nm) (O : OpN X.K C nm f) (F : FnOk X.prog X.w X.K X.mg X.base CX k f fd ps sp) (hr : Room k X.A) (hb : Binds X.K fd ps []) (hx : Passes CX X E) : OpR X (binaryOp op) (rOO C sp E) := by
  intro pins s σ H x y v u Q I rx ry h
  refine bin_of hn ?_
  obtain ⟨a, dx, fs, b, dy, gs, rfl, rfl, ea, eb, q⟩ := h
  obtain rfl : v = Value.ref a := rx
  obtain rfl : u = Value.ref b := ry
  obtain ⟨mA, J, _⟩ := ins_get I.hok ea
  obtain ⟨od, J, _⟩ := J.look
  obtain ⟨mB, J', _⟩ := ins_get I.hok eb
  obtain ⟨od', J', _⟩ := J'.look
  exact b1_ownN I.kIn O J J' (wpAny_mono (run_own (vs := [V.ref a, V.ref b]) F hr hb hx I (.cons rfl (.cons rfl .nil)) q) (fun _ _ z => back_of z) fun _ _ e => e)
theorem op_notInR {j : Nat} (hr : Room j X.A) : OpR X (compareOp .NotIn) (rNotInD X.K) := op_notInD (by have := hr.un; omega)
end
end My

/-! My own rule: several except clauses, each with a name of its own. -/
namespace My
open PySem PySem.Spec PyProof.Rows L2
/-- a clause: the class, the slot of its name, what its suite asks -/
abbrev Clause := Value × Nat × (Addr → Value → Option Addr → TS)
def wAsMany (K : PySem.W.Frag) (Wout : WX) (D : Ends) : List Clause → WX
  | [] => Wout
  | (c, i, ts) :: r => wAs K c i ts (wAsMany K Wout D r) D
inductive HdsAs (X : Cx) : List ExceptHandler → List Clause → Prop
  | nil : HdsAs X [] []
  | cons {x n : Str} {c : Value} {i : Nat} {ts : Addr → Value → Option Addr → TS} {b0 : Stmt} {suite : List Stmt} {np pos' : Pos} {hds : List ExceptHandler} {l : List Clause} (hi : X.N[i]? = some n) (hln : X.env.kindOf n = some .local) (hc : Names X x c)
      (hsu : ∀ (a : Addr) (oe : Obj) (cls : Value) (d : Option Addr) (pn : List (Addr × Obj)), Zc cls d oe → (∃ vs, oe.data = .fields vs) → PSs (X.suite a ((a, oe) :: pn)) (b0 :: suite) (ts a cls d)) (r : HdsAs X hds l) :
      HdsAs X (.ExceptHandler (some (.Name x np)) (some n) (b0 :: suite) pos' :: hds) ((c, i, ts) :: l)
section
variable {X : Cx} {body : List Stmt} {h0 : ExceptHandler} {hds : List ExceptHandler} {l : List Clause} {pos : Pos} {tb : WX → TS} {Wout : WX}
theorem ps_try_asMany (hs : X.stack = X.env :: X.outer) (hf : X.env.frame = some X.env.locals) (hN : X.N.Nodup) (tk : Takes X Wout)
    (hb : ∀ (W : WX) (pn : List (Addr × Obj)) (xe : Value → Shared → Prop), Takes (X.tr pn xe) W → PassesOwn (model X.prog X.w) X.A X.env xe → PSs (X.tr pn xe) body (tb W))
    (hh : HdsAs X (h0 :: hds) l) : PS X (.Try body (h0 :: hds) [] [] pos) (fun D σ H => tb (wAsMany X.K Wout D l) D σ H) := by
  refine ⟨fun pins s σ H D I h => ?_⟩
  have ok := I.ok
  have hfr : X.A.frames = some (X.env :: X.outer) := by rw [ok.frames, hs]
  refine wpAny_Try_except ?_
  refine wpAny_mono ((hb (wAsMany X.K Wout D l) (X.pn ++ pins) (fun e s1 => wpAny (model X.prog X.w) X.A (noteFrame e X.env) (fun _ s2 => wpAny (model X.prog X.w) X.A (setFlight e none) (fun _ s3 =>
    wpAny (model X.prog X.w) X.A (handleBy e X.env (h0 :: hds)) (SP X pins D) X.xe s3) X.xe s2) X.xe s1) (fun u s' xx => ?_) PassesOwn.looking).run [] s σ H D (I.toTry _) h) (fun f s1 hsp => ?_) (fun e s1 he => he)
  · obtain ⟨a, B, sI, pins', σ', H', cls, d, rfl, J', nb, up, sky, na, os, ag, w⟩ := xx
    have J : Inv X pins σ' H' sI := J'.ofTry ok
    have sky' : Sky B (X.env :: X.outer) a (Zc cls d) X.env.locals s'.heap := by rw [← hs]; exact sky
    show wpAny (model X.prog X.w) X.A (noteFrame (.ref a) X.env) _ _ _
    refine Sky.land Zc.steady hfr hf sky' fun h3 fl3 up3 => ?_
    have J3 : Inv X pins σ' H' { s' with heap := h3 } := J.landed nb fl3.1 (up.trans up3) os ag
    obtain ⟨oe3, vs3, he3, hz3, hd3⟩ := fl3.there
    have nfr : a ∉ frs (X.env :: X.outer) := fun hm => by
      obtain ⟨_, o', e', hnf⟩ := fl3.2.2.1.mem hm
      rw [he3] at e'; cases e'
      exact hnf _ hd3
    have nL : a ≠ X.env.locals := fun z => nfr (List.mem_filterMap.mpr ⟨X.env, List.mem_cons_self, by rw [hf, z]⟩)
    have nF : a ∉ X.fs := fun hm => by
      obtain ⟨e, he, q⟩ := List.mem_filterMap.mp hm
      exact nfr (List.mem_filterMap.mpr ⟨e, List.mem_cons_of_mem _ he, q⟩)
    have S3 := J3.suite he3 hd3 na nL nF
    have go : ∀ {hds' : List ExceptHandler} {l' : List Clause}, HdsAs X hds' l' → wAsMany X.K Wout D l' cls d σ' H' →
        wpAny (model X.prog X.w) X.A (handleBy (.ref a) X.env hds') (SP X pins D) X.xe { s' with heap := h3 } := by
      intro hds' l' hk
      induction hk with
      | nil =>
        intro w
        refine wpAny_handleBy_nil ?_
        obtain ⟨k1, k2, k3, oe, vs, T, oT, ts', he, hz, hd, h1, hr⟩ := id fl3
        unfold PySem.passOn
        refine wpAny_bind (wpAny_field he hd h1 ?_)
        rw [if_neg (show ¬ ((Value.ref T == Value.none) = true) from by simp)]
        have fin : wpAny (model X.prog X.w) X.A (setFlight (.ref a) X.env.frame) (fun _ s4 => wpAny (model X.prog X.w) X.A (throw (.ref a) : Sem Flow) (SP X pins D) X.xe s4) X.xe { s' with heap := h3 } := by
          rw [hf]
          refine HandSPX.setFlight_upZ fl3 fun h4 hh4 up4 => wpAny_throw (tk _ _ ?_)
          exact ⟨a, B, sI, pins, σ', H', cls, d, rfl, J, nb, (up.trans up3).trans up4, .inr (.inr (by rw [hs]; exact hh4)), na, os, ag, w⟩
        first
          | exact wpAny_bind (wpAny_pure (wpAny_bind fin))
          | exact wpAny_bind fin
      | @cons x n c i ts b0 suite np pos' hds2 l2 hi hln hc hsu r ih =>
        intro w
        obtain ⟨b, hb1, hyes, hno⟩ := w
        have hloc : Loc X.env.scope n := .inl hln
        refine wpAny_handleBy_cons (codeAny_handlers_test ?_) (by intro q; cases q)
        have LT : PySem.W.Looks (model X.prog X.w) h3 (typeOf (.ref a)) cls := fun A Q E s k q => wpAny_typeOf_ref (k _ _ he3) (by rw [hz3.1]; exact q)
        have LM := PySem.W.exm_one (M := model X.prog X.w) (J3.kIn) LT hb1
        have test : ∀ {Q : Value → Shared → Prop} {E : Value → Shared → Prop}, Q c { s' with heap := h3 } → wpAny (model X.prog X.w) (X.A.mark (some (.ref a))) (eval (.Name x np) X.env) Q E { s' with heap := h3 } := fun {Q E} q => by
          obtain ⟨hg, hdbg, hm | ⟨hm, hv, hnn⟩⟩ := hc
          · exact ld_glob (X := X.suite a ((a, oe3) :: (X.pn ++ pins))) S3 hg hm q hdbg
          · exact ld_blt (X := X.suite a ((a, oe3) :: (X.pn ++ pins))) S3 hg hm hv q hnn hdbg
        refine test (LM.here ?_)
        cases b with
        | true =>
          refine codeAny_handlers_suite_as ?_
          refine HandSPX.lands_againZ fl3 fun h4 fl4 up4 => ?_
          have J4 : Inv X pins σ' H' { s' with heap := h4 } := J.landed nb fl4.1 ((up.trans up3).trans up4) os ag
          obtain ⟨oe4, vs4, he4, hz4, hd4⟩ := fl4.there
          have S4 := J4.suite he4 hd4 na nL nF
          refine store_ok (X := X.suite a ((a, oe4) :: (X.pn ++ pins))) (v := .ref a) S4 hN hi hloc rfl (fun s5 S5 => ?_) (.inr hln)
          refine wpAny_mono ((hsu a oe4 cls d (X.pn ++ pins) hz4 ⟨_, hd4⟩).run [] s5 _ H' _ S5 (hyes rfl a na)) (fun f s6 hsp => ?_) (fun _ _ z => False.elim z)
          have end_ : ∀ {σ6 : L2.St} {H6 : Hp} {Q : Shared → Prop}, Inv (X.suite a ((a, oe4) :: (X.pn ++ pins))) [] σ6 H6 s6 → (∀ s7, Inv X pins (σ6.set i none) H6 s7 → Q s7) →
              wpAny (model X.prog X.w) X.A (do bindName X.env n .none; unbindBehindTheSuite X.env n pos') (fun _ s7 => Q s7) X.xe s6 := fun {σ6 H6 Q} S6 hq => gone_ok (S6.unsuite ok) hN hi hln hq
          cases f with
          | next =>
            obtain ⟨σ6, H6, S6, q6⟩ := hsp
            exact end_ S6 fun s7 J7 => ⟨_, _, J7, q6⟩
          | brk =>
            obtain ⟨σ6, H6, S6, q6⟩ := hsp
            exact end_ S6 fun s7 J7 => ⟨_, _, J7, q6⟩
          | cont =>
            obtain ⟨σ6, H6, S6, q6⟩ := hsp
            exact end_ S6 fun s7 J7 => ⟨_, _, J7, q6⟩
          | ret u =>
            obtain ⟨v6, σ6, H6, S6, r6, q6⟩ := hsp
            exact end_ S6 fun s7 J7 => ⟨_, _, _, J7, r6, q6⟩
        | false =>
          show wpAny _ X.A (handleBy (.ref a) X.env hds2) _ _ _
          exact ih (hno rfl)
    exact go hh w
  · cases f with
    | next =>
      obtain ⟨σ', H', J', q⟩ := hsp
      exact wpAny_execs_nil ⟨σ', H', J'.ofTry ok, q⟩
    | brk =>
      obtain ⟨σ', H', J', q⟩ := hsp
      exact ⟨σ', H', J'.ofTry ok, q⟩
    | cont =>
      obtain ⟨σ', H', J', q⟩ := hsp
      exact ⟨σ', H', J'.ofTry ok, q⟩
    | ret u =>
      obtain ⟨v, σ', H', J', r, q⟩ := hsp
      exact ⟨v, σ', H', J'.ofTry ok, r, q⟩
end
end My

/-! My own rules: o[k], o[k] = v, k in o, len(o) by the methods of an own class, also where they raise. -/
namespace My
open PySem PySem.Spec PyProof.Rows L2
/-- a method of the class for an operator -/
structure DunC (K : PySem.W.Frag) (C : Addr) (nm : Str) (f : Addr) : Prop where
  at_ : PySem.W.findIn K (.ref C) nm = some (some (.ref f))
  fn : PySem.W.isFn K (.ref f) = true
  fi : PySem.W.fnIn K f = true
  ns : PySem.W.noSeq K C = true
section
variable {X : Cx} {CX : CXT} {k : Nat} {C f : Addr} {fd : FuncData} {ps : List Str} {sp : Sp} {E : XK}
theorem passesAtOf {E : XK} (h : Passes CX X E) (σ : L2.St) : PassesAt CX X σ E := fun pins H s e s' I c => h pins σ H s e s' I c
theorem run_ownS {pins : List (Addr × Obj)} {s : Shared} {σ : L2.St} {H : Hp} {Q : VK} {us : List Value} {vs : List V} (F : FnOk X.prog X.w X.K X.mg X.base CX k f fd ps sp) (hr : Room k X.A) (hb : Binds X.K fd ps []) (hx : PassesAt CX X σ E)
    (I : Inv X pins σ H s) (r : Vals vs us) (h : sp vs H Q E) : wpAny (model X.prog X.w) X.A (call (.ref f) us) (EP X pins σ Q) X.xe s := by
  have hl : (us ++ []).length = ps.length := by
    rw [List.append_nil, ← F.len _ _ _ _ h]
    exact r.length.symm
  refine wpAny_call (codeAny_mono (F.run X.A X.stack s H ⟨us, []⟩ us vs _ E hr I.env0 (by
    have := hb s us I.kIn hl
    rw [List.append_nil] at this
    exact this) r h) fun r s' hq => ?_)
  cases r with
  | error e => exact hx pins H s e s' I hq
  | ok fl =>
    cases fl with
    | ret w => exact I.after hq
    | next => exact False.elim hq
    | brk => exact False.elim hq
    | cont => exact False.elim hq
theorem run_own1S {pins : List (Addr × Obj)} {s : Shared} {σ : L2.St} {H : Hp} {Q : VK} {us : List Value} {vs : List V} (F : FnOk X.prog X.w X.K X.mg X.base CX k f fd ps sp) (hr : Room (k + 1) X.A) (hb : Binds X.K fd ps []) (hx : PassesAt CX X σ E)
    (I : Inv X pins σ H s) (r : Vals vs us) (h : sp vs H Q E) : wpAny (model X.prog X.w) X.A.in1 (call (.ref f) us) (EP X pins σ Q) X.xe s := by
  have hl : (us ++ []).length = ps.length := by
    rw [List.append_nil, ← F.len _ _ _ _ h]
    exact r.length.symm
  refine wpAny_call (codeAny_mono (F.run X.A.in1 X.stack s H ⟨us, []⟩ us vs _ E hr.in1 I.env0.in1 (by
    have := hb s us I.kIn hl
    rw [List.append_nil] at this
    exact this) r h) fun r s' hq => ?_)
  cases r with
  | error e => exact hx pins H s e s' I hq
  | ok fl =>
    cases fl with
    | ret w => exact I.after hq
    | next => exact False.elim hq
    | brk => exact False.elim hq
    | cont => exact False.elim hq
/-! ### o[k] -/
def tGetO (C : Addr) (sp : Sp) (E : L2.St → XK) (ta tb : TE) : TE := fun σ H Q => ta σ H fun x H1 => tb σ H1 fun y H2 => ∃ a dx fs, x = V.ref a ∧ H2 a = some (.ins C dx fs) ∧ sp [.ref a, y] H2 Q (E σ)
theorem pe_getO {E : L2.St → XK} {a b : Expr} {ta tb : TE} {pos : Pos} (D : DunC X.K C "__getitem__" f) (F : FnOk X.prog X.w X.K X.mg X.base CX k f fd ps sp) (hr : Room (k + 1) X.A) (hb : Binds X.K fd ps []) (hx : ∀ σ, PassesAt CX X σ (E σ)) (pa : PE X a ta) (pb : PE X b tb)
    (hs : ∀ (x : Addr) (u : Value), subscripted b true (.ref x) u = runValue (.builtin "lifetime.subscript" ⟨[.ref x, u], []⟩)) : PE X (.Subscript a b pos) (tGetO C sp E ta tb) := by
  refine ⟨fun pins s σ H Q I h => ?_⟩
  refine Subscript_ (binT pa pb I (R := fun x y H2 => ∃ a dx fs, x = V.ref a ∧ H2 a = some (.ins C dx fs) ∧ sp [.ref a, y] H2 Q (E σ)) h fun v u s2 x y H2 I2 rx ry q => ?_)
  obtain ⟨p, dx, fs, rfl, ea, q⟩ := q
  obtain rfl : v = Value.ref p := rx
  obtain ⟨mA, J, _⟩ := ins_get I2.hok ea
  obtain ⟨od, J, _⟩ := J.look
  obtain ⟨m, hF⟩ := I2.fr
  exact PySem.W.sub_K hF I2.ok.mod.kin J D.at_ D.fi D.fn (run_own1S (vs := [V.ref p, y]) F hr hb (hx σ) I2 (.cons rfl (.cons ry .nil)) q) (hs p u)
/-! ### k in o -/
def rInI (C : Addr) (sp : Sp) (E : XK) (neg : Bool) : R2 := fun x y H Q => ∃ a dx fs, y = V.ref a ∧ H a = some (.ins C dx fs) ∧ sp [.ref a, x] H (fun v H' => ∃ b, v = .bl b ∧ Q (.bl (if neg then !b else b)) H') E
theorem op_inO (D : DunC X.K C "__contains__" f) (F : FnOk X.prog X.w X.K X.mg X.base CX k f fd ps sp) (hr : Room k X.A) (hb : Binds X.K fd ps []) (hx : Passes CX X E) : OpR X (compareOp .In) (rInI C sp E false) := by
  intro pins s σ H x y v u Q I rx ry h
  obtain ⟨p, dx, fs, rfl, ea, q⟩ := h
  obtain rfl : u = Value.ref p := ry
  obtain ⟨mA, J, _⟩ := ins_get I.hok ea
  obtain ⟨od, J, _⟩ := J.look
  obtain ⟨m, hF⟩ := I.fr
  refine PySem.W.in_K hF I.ok.mod.kin J D.at_ D.fn (wpAny_mono (run_ownS (vs := [V.ref p, x]) F hr hb (passesAtOf hx σ) I (.cons rfl (.cons rx .nil)) q) (fun r s' hr' => ?_) fun _ _ e => e)
  obtain ⟨z, H2, I2, rz, b, ez, q2⟩ := hr'
  subst ez
  obtain rfl : r = Value.bool b := rz
  exact wpAny_truthy_bool ⟨.bl b, H2, I2, rfl, q2⟩
theorem op_notInO (D : DunC X.K C "__contains__" f) (F : FnOk X.prog X.w X.K X.mg X.base CX k f fd ps sp) (hr : Room k X.A) (hb : Binds X.K fd ps []) (hx : Passes CX X E) : OpR X (compareOp .NotIn) (rInI C sp E true) := by
  intro pins s σ H x y v u Q I rx ry h
  obtain ⟨p, dx, fs, rfl, ea, q⟩ := h
  obtain rfl : u = Value.ref p := ry
  obtain ⟨mA, J, _⟩ := ins_get I.hok ea
  obtain ⟨od, J, _⟩ := J.look
  obtain ⟨m, hF⟩ := I.fr
  refine PySem.W.notIn_K hF I.ok.mod.kin J D.at_ D.fn (wpAny_mono (run_ownS (vs := [V.ref p, x]) F hr hb (passesAtOf hx σ) I (.cons rfl (.cons rx .nil)) q) (fun r s' hr' => ?_) fun _ _ e => e)
  obtain ⟨z, H2, I2, rz, b, ez, q2⟩ := hr'
  subst ez
  obtain rfl : r = Value.bool b := rz
  exact wpAny_truthy_bool ⟨.bl (!b), H2, I2, rfl, q2⟩
/-! ### len(o) -/
def rLenO (C : Addr) (sp : Sp) (E : XK) : List V → Hp → VK → Prop := fun xs H Q => ∃ a dx fs, xs = [V.ref a] ∧ H a = some (.ins C dx fs) ∧ sp [.ref a] H (fun v H' => ∃ n : Int, v = .int n ∧ 0 ≤ n ∧ n < 2 ^ 63 ∧ Q (.int n) H') E
theorem call_lenO (D : DunC X.K C "__len__" f) (F : FnOk X.prog X.w X.K X.mg X.base CX k f fd ps sp) (hr : Room (k + 1) X.A) (hb : Binds X.K fd ps []) (hx : Passes CX X E) : CallR X (.builtin "len") (rLenO C sp E) := by
  intro pins s σ H xs us Q I r h
  obtain ⟨p, dx, fs, rfl, ea, q⟩ := h
  obtain ⟨u, rfl, rx⟩ := vals1 r
  obtain rfl : u = Value.ref p := rx
  obtain ⟨mA, J, _⟩ := ins_get I.hok ea
  obtain ⟨od, J, _⟩ := J.look
  obtain ⟨m, hF⟩ := I.fr
  refine PySem.W.len_K hF I.ok.mod.kin J D.at_ D.fn (wpAny_mono (run_own1S (vs := [V.ref p]) F hr hb (passesAtOf hx σ) I (.cons rfl .nil) q) (fun r s' hr' => ?_) fun _ _ e => e)
  obtain ⟨z, H2, I2, rz, n, ez, n0, n1, q2⟩ := hr'
  subst ez
  obtain ⟨t, rfl⟩ := rz
  exact ⟨⟨n0, n1⟩, .int n, H2, I2.tok _, ⟨_, rfl⟩, q2⟩
/-! ### o[k] = v -/
def gSetO (C : Addr) (sp : Sp) (E : L2.St → XK) (to ti : TE) : TG := fun v σ H Q => to σ H fun o H1 => ti σ H1 fun i H2 => ∃ a dx fs, o = V.ref a ∧ H2 a = some (.ins C dx fs) ∧ sp [.ref a, i, v] H2 (fun _ H3 => Q σ H3) (E σ)
theorem pg_setO {E : L2.St → XK} {o i : Expr} {to ti : TE} {pos : Pos} (D : DunC X.K C "__setitem__" f) (F : FnOk X.prog X.w X.K X.mg X.base CX k f fd ps sp) (hr : Room k X.A) (hb : Binds X.K fd ps []) (hx : ∀ σ, PassesAt CX X σ (E σ)) (ho : PE X o to) (hi : PE X i ti)
    (ha : ∀ v, assign (.Subscript o i pos) X.env v = (do
      let ov ← holding [v] (eval o X.env)
      let iv ← holding [v, ov] (eval i X.env)
      standAt pos
      holding [v, ov, iv] (setItem ov iv v)
      release [v, ov, iv] []) := by intro _; rfl) : PG X (.Subscript o i pos) (gSetO C sp E to ti) := by
  refine ⟨fun pins s σ H v u Q I r h => ?_⟩
  rw [ha]
  refine wpAny_bind (wpAny_holding (thn (ho.run pins s σ H _ I h) fun ov s1 ⟨x, H1, I1, r1, q1⟩ => ?_))
  refine wpAny_bind (wpAny_holding (thn (hi.run pins s1 σ H1 _ I1 q1) fun iv s2 ⟨y, H2, I2, r2, q2⟩ => ?_))
  obtain ⟨p, dx, fs, rfl, ea, q⟩ := q2
  obtain rfl : ov = Value.ref p := r1
  obtain ⟨mA, J, _⟩ := ins_get I2.hok ea
  obtain ⟨od, J, _⟩ := J.look
  obtain ⟨m, hF⟩ := I2.fr
  refine wpAny_bind (wpAny_standAt (wpAny_bind (wpAny_holding (PySem.W.ksp_setItem hF I2.ok.mod.kin J D.ns D.at_ D.fn (wpAny_mono (run_ownS (vs := [V.ref p, y, v]) F hr hb (hx σ) I2 (.cons rfl (.cons r2 (.cons r .nil))) q) (fun r s3 hr' => ?_) fun _ _ e => e)))))
  obtain ⟨z, H3, I3, rz, q3⟩ := hr'
  exact wpAny_release ⟨σ, H3, I3, q3⟩
end
end My

/-! My own rules: a dict's display that begins with another dict; tuple(d) of a dict. -/
namespace My
open PySem PySem.Spec PyProof.Rows L2
section
variable {prog : Program} {w : World} {K : Type} [DecidableEq K] {knd : KeyKind prog w K} {A : Around} {E : Value → Shared → Prop} {s : Shared}
/-- one entry laid by the display's merge -/
theorem put_kv {a : Addr} {ps : List (K × Value)} {x : K} {u y : Value} {R : Unit → Shared → Prop} (hx : knd.is x u = true) (D : s.heap.DictOf knd a ps) (hl : ps.length ≤ sizeLine)
    (q : ∀ g, g.DictOf knd a (stored ps x y) → Heap.SameBut a s.heap g → R () { s with heap := g }) : wpAny (model prog w) A (dictPut a (knd.hash x) u y) R E s := by
  obtain ⟨ob, en, ep, e1, e2, e3, e4, e5, e6⟩ := D
  have len : en.size ≤ sizeLine := by
    have t := e5.length
    rw [Array.length_toList] at t
    omega
  have same : (en.findIdx? fun z => knd.is x z.key) = ps.findIdx? fun z => decide (z.1 = x) := by
    have t := e5.findIdx x
    obtain ⟨l⟩ := en
    simpa using t
  unfold dictPut
  refine wpAny_bind (wpAny_dictFind_of hx e1 e3 e4 ?_)
  cases hi : en.findIdx? fun z => knd.is x z.key with
  | none =>
    have out : x ∉ ps.map (·.1) := not_mem_of_findIdx_none (same ▸ hi)
    have none' : ¬ (ps.any fun z => decide (z.1 = x)) = true := fun t => by
      obtain ⟨z, z1, z2⟩ := List.any_eq_true.mp t
      exact out (List.mem_map.mpr ⟨z, z1, of_decide_eq_true z2⟩)
    refine wpAny_updateDictKeys (hz := len) e1 e3 (q _ ?_ (Heap.SameBut.update ..))
    refine ⟨_, _, ep + 1, Heap.get?_update_self _ e1 (Obj.isFreed_of_dict (Obj.data_mapDictKeys e3 _)), e2.mapDictKeys _, Obj.data_mapDictKeys e3 _, e4.push hx _, ?_, ?_⟩
    · rw [stored, if_neg none']
      have t := e5.append hx (knd.hash x) y
      obtain ⟨l⟩ := en
      simpa using t
    · rw [stored, if_neg none', List.map_append]
      refine List.nodup_append.mpr ⟨e6, by simp, fun c hc b hb => ?_⟩
      simp only [List.map_cons, List.map_nil, List.mem_singleton] at hb
      rw [hb]
      exact fun t => out (t ▸ hc)
  | some i =>
    have there := any_of_findIdx_some (same ▸ hi)
    have hi' : (en.toList.findIdx? fun z => knd.is x z.key) = some i := by
      rw [← hi]
      obtain ⟨l⟩ := en
      simp
    refine wpAny_updateDict e1 e3 (q _ ?_ (Heap.SameBut.update ..))
    refine ⟨_, _, ep, Heap.get?_update_self _ e1 (Obj.isFreed_of_dict (Obj.data_mapDict e3 _)), e2.mapDict _, Obj.data_mapDict e3 _, e4.modify _ _, ?_, ?_⟩
    · rw [stored, if_pos there]
      have t := e5.modify e6 hi' y
      obtain ⟨l⟩ := en
      simpa using t
    · rw [stored, if_pos there, keys_map_store]
      exact e6
theorem not_ref {P : Program} {W : World} {T : Type} [DecidableEq T] {kd : KeyKind P W T} {en : Array DictEntry} (h : KeysOf kd en) : ∀ z ∈ en.toList, ∀ a, z.key ≠ .ref a := fun z hz a e => by
  obtain ⟨x, hx, _⟩ := h z (by simpa using hz)
  have t := kd.byValue x z.key hx
  rw [e] at t
  cases t
/-- the display's merge of a whole dict into another -/
theorem merge_kv {a b : Addr} {ps qs : List (K × Value)} {R : Unit → Shared → Prop} (hab : a ≠ b) (hb : (b == sysModules) = false) (Da : s.heap.DictOf knd a ps) (Db : s.heap.DictOf knd b qs)
    (hl : ps.length + qs.length ≤ sizeLine) (q : ∀ g, g.DictOf knd a (merged ps qs) → Heap.SameBut a s.heap g → R () { s with heap := g }) :
    wpAny (model prog w) A (mergeMapping a (.ref b) false) R E s := by
  obtain ⟨oa, ea, epa, a1, a2, a3, a4, a5, a6⟩ := id Da
  obtain ⟨ob, eb, epb, b1, b2, b3, b4, b5, b6⟩ := id Db
  have lenb : eb.size = qs.length := by rw [← b5.length, Array.length_toList]
  unfold mergeMapping
  refine wpAny_bind (wpAny_isInstance Db.typeIs isSubtype_dict_dict ?_)
  dsimp only
  simp only [if_true]
  refine wpAny_bind (wpAny_specialOf Db.typeIs F.slot_dict_iter.lookup (wpAny_bind (wpAny_pure ?_)))
  rw [show (some (Value.builtin "dict.__iter__") == some (Value.builtin "dict.__iter__")) = true from beq_self_eq_true _]
  simp only [hb, Bool.false_eq_true, if_false]
  refine wpAny_bind (wpAny_dictEntries a1 a3 ?_)
  have main : ∀ s0 : Shared, s0 = s → wpAny (model prog w) A (do
      let l ← dictEntries b
      let e0 ← dictEpoch b
      forIn (List.range l.size) PUnit.unit fun i (_ : PUnit) => (do
          let l2 ← dictEntries b
          match l2[i]? with
            | some z => do
              holding [z.key, z.val] (dictPut a z.hash z.key z.val)
              let e2 ← dictEpoch b
              if (e2 != e0) = true then do
                  (unsupported "dict.changed-during-merge" : Sem PUnit)
                  pure (ForInStep.yield PUnit.unit)
                else pure (ForInStep.yield PUnit.unit)
            | _ => do
              (unsupported "dict.changed-during-merge" : Sem PUnit)
              pure (ForInStep.yield PUnit.unit) : Sem (ForInStep PUnit))
      pure ()) R E s0 := by
    intro s0 e0
    rw [e0]
    clear e0 s0
    refine wpAny_bind (wpAny_dictEntries b1 b3 ?_)
    refine wpAny_bind (wpAny_dictEpoch b1 b3 ?_)
    refine wpAny_bind ?_
    rw [List.range_eq_range']
    refine wpAny_forIn_list _ (fun left _ t => ∃ g n, t = { s with heap := g } ∧ left = List.range' n (eb.size - n) ∧ n ≤ eb.size ∧ g.DictOf knd a (merged ps (qs.take n)) ∧ g.get? b = some ob ∧ Heap.SameBut a s.heap g)
      _ ?_ ?_ _ _ ⟨s.heap, 0, rfl, by simp, Nat.zero_le _, by simpa [merged] using Da, b1, Heap.SameBut.refl _ _⟩
    · rintro n0 left _ t ⟨g, n, rfl, hr, hn, Dg, bg, sg⟩
      have lt : n < eb.size := by
        refine Nat.lt_of_le_of_ne hn fun e => ?_
        rw [e, Nat.sub_self] at hr
        cases hr
      have hr2 : n0 :: left = n :: List.range' (n + 1) (eb.size - (n + 1)) := by
        rw [hr, show eb.size - n = (eb.size - (n + 1)) + 1 from by omega, List.range'_succ]
      injection hr2 with r1 r2
      subst r1
      refine wpAny_bind (wpAny_dictEntries bg b3 ?_)
      rw [Array.getElem?_eq_getElem lt]
      have ltq : n0 < qs.length := by omega
      obtain ⟨⟨x, y⟩, hq⟩ : ∃ z, qs[n0]? = some z := ⟨qs[n0]'ltq, List.getElem?_eq_getElem _⟩
      obtain ⟨hk, hv⟩ := b5.get? (e := eb[n0]) (by simp [lt]) hq
      obtain ⟨x2, hk2, hh⟩ := b4 eb[n0] (Array.getElem_mem lt)
      have ex : x2 = x := knd.inj _ _ _ hk2 hk
      subst ex
      have few : (merged ps (qs.take n0)).length ≤ sizeLine := by
        have t1 := merged_length_le ps (qs.take n0)
        rw [List.length_take] at t1
        omega
      show wpAny _ _ (holding [eb[n0].key, eb[n0].val] (dictPut a eb[n0].hash eb[n0].key eb[n0].val) >>= _) _ _ _
      rw [hh, hv]
      refine wpAny_bind (wpAny_holding (put_kv hk Dg few fun g2 D2 s2 => ?_))
      have bg2 : g2.get? b = some ob := (s2.2 b (Ne.symm hab)).trans bg
      refine wpAny_bind (wpAny_dictEpoch bg2 b3 ?_)
      rw [if_neg (by simp)]
      exact wpAny_pure ⟨g2, n0 + 1, rfl, r2, lt, by rw [merged_take_succ ps qs n0 (x2, y) hq]; exact D2, bg2, sg.trans s2⟩
    · rintro _ t ⟨g, n, rfl, hr, hn, Dg, bg, sg⟩
      have en : n = eb.size := by
        refine Nat.le_antisymm hn (Nat.le_of_not_lt fun lt => ?_)
        rw [show eb.size - n = (eb.size - (n + 1)) + 1 from by omega, List.range'_succ] at hr
        cases hr
      refine wpAny_pure (q g ?_ sg)
      rw [en, lenb, List.take_length] at Dg
      exact Dg
  split
  · refine wpAny_bind (wpAny_dictEntries b1 b3 ?_)
    refine wpAny_bind ?_
    rw [← Array.forIn_toList]
    refine wpAny_forIn_list _ (fun left _ t => t = s ∧ ∀ z ∈ left, ∀ c, z.key ≠ .ref c) _ ?_ ?_ _ _ ⟨rfl, not_ref b4⟩
    · rintro z left _ t ⟨rfl, hz⟩
      split
      · rename_i c hc
        exact absurd hc (hz z List.mem_cons_self c)
      · exact wpAny_pure ⟨rfl, fun z2 h2 => hz z2 (List.mem_cons_of_mem _ h2)⟩
    · rintro _ t ⟨ht, _⟩
      exact main t ht
  · exact main _ rfl
end
section
variable {prog : Program} {w : World} {K : Type} [DecidableEq K] {knd : KeyKind prog w K} {A : Around} {E : Value → Shared → Prop} {s : Shared}
theorem display_kv {m k v : Sem Value} {R : Value → Shared → Prop}
    (h : wpAny (model prog w) A m (fun x s1 => ∃ b qs, x = .ref b ∧ s.heap.objs.size ≠ b ∧ (b == sysModules) = false ∧ s1.heap.DictOf knd s.heap.objs.size [] ∧ s1.heap.DictOf knd b qs ∧ qs.length < sizeLine ∧
      ∀ g, g.DictOf knd s.heap.objs.size qs → Heap.SameBut s.heap.objs.size s1.heap g →
        wpAny (model prog w) A k (fun y s2 => wpAny (model prog w) A v (fun z s3 => s.heap.objs.size ≠ g.objs.size ∧ (g.objs.size == sysModules) = false ∧ s3.heap.DictOf knd g.objs.size [] ∧ ∃ rs, s3.heap.DictOf knd s.heap.objs.size rs ∧ rs.length < sizeLine ∧ ∃ x0, knd.is x0 y = true ∧
          ∀ g2 g3, g2.DictOf knd g.objs.size [(x0, z)] → Heap.SameBut g.objs.size s3.heap g2 → g3.DictOf knd s.heap.objs.size (stored rs x0 z) → Heap.SameBut s.heap.objs.size g2 g3 →
            R (.ref s.heap.objs.size) { s3 with heap := g3, toks := s3.toks + 1 }) E s2) E { s1 with heap := g.push { cls := .type "dict", data := .dict #[] } }) E
      { s with heap := s.heap.push { cls := .type "dict", data := .dict #[] } }) :
    wpAny (model prog w) A (dictDisplay [(none, m), (some k, v)]) R E s := by
  unfold dictDisplay
  dsimp only
  simp only [List.forIn_cons, List.forIn_nil, List.isEmpty_nil, if_true, pure_bind, bind_pure_comp, bind_assoc]
  refine wpAny_bind (wpAny_alloc ?_)
  refine wpAny_bind (wpAny_holding (wpAny_mono h (fun x s1 h1 => ?_) fun _ _ e => e))
  obtain ⟨b, qs, rfl, hb, hsm, d0, db, hl, h1⟩ := h1
  refine wpAny_bind (wpAny_map (wpAny_onRaise (wpAny_tryCatch (wpAny_onRaise (wpAny_holding (merge_kv (knd := knd) hb hsm d0 db ?_ fun g dg sg => ?_))))))
  · rw [List.length_nil]; omega
  have nd : (qs.map (·.1)).Nodup := let ⟨_, _, _, _, _, _, _, _, hn⟩ := db; hn
  rw [merged_nil_of_nodup qs nd] at dg
  have h2 := h1 g dg sg
  clear h1
  dsimp only
  simp only [List.nil_append, List.length_cons, List.length_nil, show ((0 + 1 : Nat) == 17) = false from rfl, Bool.false_eq_true, if_false, pure_bind, List.isEmpty_cons]
  refine wpAny_bind (wpAny_bind (wpAny_holding (wpAny_subDict (knd := knd) (show 1 ≤ 15 from by decide) (evalPairs_cons (wpAny_mono h2 (fun y s2 h3 => wpAny_mono h3 (fun z s3 h4 => evalPairs_nil ?_) fun _ _ e => e) fun _ _ e => e)))))
  obtain ⟨ne, lo, d3, rs, p3, hr, x0, hx, fin⟩ := h4
  refine ⟨[(x0, z)], ⟨hx, rfl, True.intro⟩, d3, fun g2 d2 s2' => wpAny_map (wpAny_onRaise (wpAny_holding (merge_kv (knd := knd) (ps := rs) (qs := [(x0, z)]) ne lo (p3.sameBut s2' ne) d2 ?_ fun g3 d3' s3' => wpAny_pure (fin g2 g3 d2 s2' d3' s3'))))⟩
  rw [List.length_singleton]
  omega
end
section
variable {X : Cx}
/-- {**d, k: v}: p the new dict, q the one of the pair behind it -/
def tDispD (td tk tv : TE) : TE := fun σ H Q => ∀ p, H p = none → td σ (upd H p (.dK [])) fun x H1 => ∃ a kvs, x = .ref a ∧ H1 a = some (.dK kvs) ∧ a ≠ p ∧ H1 p = some (.dK []) ∧ kvs.length < sizeLine ∧
  ∀ q, (upd H1 p (.dK kvs)) q = none → tk σ (upd (upd H1 p (.dK kvs)) q (.dK [])) fun y H2 => tv σ H2 fun z H3 => H3 p = some (.dK kvs) ∧ H3 q = some (.dK []) ∧ ∃ k, y = kV k ∧ Q (.ref p) (upd (upd H3 q (.dK [(k, z)])) p (.dK (putK kvs k z)))
theorem pe_dispD {d k v : Expr} {pos : Pos} {td tk tv : TE} (hd : PE X d td) (hk : PE X k tk) (hv : PE X v tv) : PE X (.Dict [none, some k] [d, v] pos) (tDispD td tk tv) := by
  refine ⟨fun pins s σ H Q I h => ?_⟩
  have hn := I.hok.fresh (Nat.le_refl s.heap.objs.size)
  have I1 := I.laid (a := s.heap.objs.size) (o := .dK []) (h' := s.heap.push { cls := .type "dict", data := .dict #[] }) (t' := s.toks) (fun _ _ q => Heap.get?_push_of_some _ q) (Nat.le_refl _) (dk_empty s.heap I.big)
  rw [arm_eval_Dict]
  refine wpAny_bind (wpAny_standAt ?_)
  show wpAny _ _ (dictDisplay [(none, do let x ← eval d X.env; standAt pos; pure x), (some (eval k X.env), do let x ← eval v X.env; standAt pos; pure x)]) _ _ _
  refine display_kv (knd := mixKind X.prog X.w) (wpAny_bind (thn (hd.run pins _ σ _ _ I1 (h _ hn)) fun u s1 ⟨x, H1, I2, rel, a, kvs, ex, ea, hap, ep, hl, q⟩ => wpAny_bind (wpAny_standAt (wpAny_pure ?_))))
  subst ex
  cases rel
  obtain ⟨z1, lo, vs, r1, da⟩ := dk_of I2.hok ea
  obtain ⟨z2, lo2, vs2, r2, dp⟩ := dk_of I2.hok ep
  cases r2
  refine ⟨a, vs, rfl, Ne.symm hap, lo, dp, da, by rw [← r1.length]; exact hl, fun g dg sg => ?_⟩
  have hz : kvs.length ≤ sizeLine := Nat.le_of_lt hl
  have stays : ∀ {g : Heap} {b : Addr} {ps : List (Key × Value)}, g.DictOf (mixKind X.prog X.w) b ps → ∃ q, g.get? b = some q := fun t => let ⟨q, _, _, hq, _⟩ := t; ⟨q, hq⟩
  have I3 : Inv X pins σ (upd H1 s.heap.objs.size (.dK kvs)) { s1 with heap := g, toks := s1.toks } := d_write I2 (by rw [ep]; exact True.intro) sg (stays dg) (dk_new hz lo2 r1 dg)
  have hn2 := I3.hok.fresh (Nat.le_refl g.objs.size)
  have I4 := I3.laid (a := g.objs.size) (o := .dK []) (h' := g.push { cls := .type "dict", data := .dict #[] }) (t' := s1.toks) (fun _ _ q => Heap.get?_push_of_some _ q) (Nat.le_refl _) (dk_empty g I3.big)
  refine thn (hk.run pins _ σ _ _ I4 (q _ hn2)) fun y s2 ⟨y', H2, I5, ry, q2⟩ => wpAny_bind (thn (hv.run pins s2 σ H2 _ I5 q2) fun w' s3 ⟨z', H3, I6, rz, hp, hq, k0, ek, q3⟩ => wpAny_bind (wpAny_standAt (wpAny_pure ?_)))
  subst ek
  obtain ⟨z4, lo4, vs4, r4, d4⟩ := dk_of I6.hok hq
  cases r4
  obtain ⟨z5, lo5, vs5, r5, d5⟩ := dk_of I6.hok hp
  have ne : s.heap.objs.size ≠ g.objs.size := fun e => by
    rw [← e, upd_same] at hn2
    cases hn2
  have hz5 : vs5.length < sizeLine := by rw [← r5.length]; exact hl
  refine ⟨ne, lo4, d4, vs5, d5, hz5, k0, kV_is ry, fun g2 g3 e2 t2 e3 t3 => ?_⟩
  have I7 : Inv X pins σ (upd H3 g.objs.size (.dK [(k0, z')])) { s3 with heap := g2, toks := s3.toks } :=
    d_write I6 (by rw [hq]; exact True.intro) t2 (stays e2) (dk_new (by rw [List.length_singleton, sizeLine_eq]; omega) lo4 (.cons ⟨rfl, rz⟩ .nil) e2)
  have I8 : Inv X pins σ (upd (upd H3 g.objs.size (.dK [(k0, z')])) s.heap.objs.size (.dK (putK kvs k0 z'))) { s3 with heap := g3, toks := s3.toks + 1 } := by
    have len := length_putK kvs k0 z'
    have t := d_write (t' := s3.toks + 1) I7 (by rw [upd_ne ne, hp]; exact True.intro) t3 (stays e3) (dk_new (by omega) lo5 (r5.put k0 rz) e3)
    exact t
  exact ⟨.ref s.heap.objs.size, _, I8, rfl, q3⟩
end
section
open PySem.W
variable {prog : Program} {w : World} {A : Around} {E : Value → Shared → Prop} {s : Shared} {T : String} {r d : Addr} {n : Nat} {P : Nat → Value → Prop} {OK : Heap → Prop}
/-- what a source of keys gives, gathered -/
theorem gather_src {R : List Value → Shared → Prop} (C : KdlSrc prog w T r d n P OK) (hh : A.handled = none) (ok : OK s.heap) (hn : n ≤ sizeLine)
    (q : ∀ (g : Heap) (tk : Nat) (got : Array Value), (∀ b o, s.heap.get? b = some o → g.get? b = some o) → ItemsOf P got n → R got.toList { s with heap := g, toks := tk }) : wpAny (model prog w) A (collect (.ref r)) R E s := by
  unfold collect
  refine wpAny_bind (wpAny_runValue (codeAny_builtin F.entry_proto_collect ?_))
  rw [Around.under_plainId F.plain_proto_collect _]
  show wpAny _ A.in1 (newList [] >>= fun l => again (.builtin "list.__iadd__" ⟨[l, .ref r], []⟩)) _ _ s
  refine wpAny_bind (wpAny_newObj_type (wpAny_pure ⟨plainId_quiet F.plain_list_iadd _, codeAny_builtin F.entry_list_iadd ?_⟩))
  rw [Around.under_plainId F.plain_list_iadd _]
  show wpAny _ A.in1 (Builtin.List.listExtendWith (.ref s.heap.objs.size) (.ref r) (.ref s.heap.objs.size)) _ _ _
  have lt := C.there _ ok
  have at0 : (s.heap.push { cls := .type "list", data := .seq ([] : List Value).toArray }).get? s.heap.objs.size = some { cls := .type "list", data := .seq #[] 0 } := Heap.get?_push_size _ rfl
  refine wpAny_mono (kdl_extend (A := A) (s := { s with heap := s.heap.push { cls := .type "list", data := .seq ([] : List Value).toArray } })
    (R := fun z t => z = .ok (.ret (.ref s.heap.objs.size)) ∧ ∃ (g : Heap) (tk : Nat) (got : Array Value) (c : Nat), t = { s with heap := g, toks := tk } ∧ (∀ b o, s.heap.get? b = some o → g.get? b = some o) ∧
      g.get? s.heap.objs.size = some { cls := .type "list", dict := none, data := .seq got c, slots := #[] } ∧ ItemsOf P got n)
    C hh (C.keep _ _ ok fun b _ o e => Heap.get?_push_of_some _ e) s.heap.objs.size (Nat.ne_of_gt lt.1) (Nat.ne_of_gt lt.2) _ 0 at0
    (fun g tk got c hk e hi => ⟨rfl, g, tk, got, c, rfl, fun b o u => hk b o (Nat.ne_of_lt (Heap.lt_size u)) (Heap.get?_push_of_some _ u), e, hi⟩) hn) (fun fin t h => ?_) fun e t h => ?_
  · cases fin with
    | done f =>
      obtain ⟨e, g, tk, got, c, rfl, hk, hS, hi⟩ := h
      cases e
      show wpAny _ A (load s.heap.objs.size >>= _) _ _ _
      exact wpAny_bind (wpAny_load hS (wpAny_pure (q g tk got hk hi)))
    | again c' =>
      refine ⟨h.1, codeAny_mono h.2 fun z t' h' => ?_⟩
      obtain ⟨rfl, g, tk, got, c, rfl, hk, hS, hi⟩ := h'
      show wpAny _ A (load s.heap.objs.size >>= _) _ _ _
      exact wpAny_bind (wpAny_load hS (wpAny_pure (q g tk got hk hi)))
  · exact absurd h.1 (by simp)
theorem new_tup_src {R : Value → Shared → Prop} (C : KdlSrc prog w T r d n P OK) (hh : A.handled = none) (ok : OK s.heap) (hn : n ≤ sizeLine)
    (q : ∀ (g : Heap) (tk : Nat) (got : Array Value), (∀ b o, s.heap.get? b = some o → g.get? b = some o) → ItemsOf P got n → R (.ref g.objs.size) { s with heap := g.push { cls := .type "tuple", data := .seq got }, toks := tk }) :
    codeAny (model prog w) A (.call (.builtin "tuple.__new__") ⟨[.type "tuple", .ref r], []⟩) (wants R E) s := by
  refine codeAny_of_tree ?_
  show wpAny _ A.in1 (do checkBuiltinCall "tuple.__new__" ⟨[.type "tuple", .ref r], []⟩; again (.builtin "tuple.__new__" ⟨[.type "tuple", .ref r], []⟩)) _ _ s
  refine wpAny_bind (wpAny_of_eq (F.newCall_tuple_1 _) (wpAny_pure ⟨plainId_quiet F.plain_tuple_new _, codeAny_builtin F.entry_tuple_new ?_⟩))
  rw [Around.under_plainId F.plain_tuple_new _]
  have t1 := sub_tuple_self
  have t2 := init_tuple_lookup
  have t3 := madeHere_tuple
  have t4 := C.type s ok
  have t5 : A.in1.handled = none := hh
  have t6 := C.notTuple
  have t7 := C.notList
  wp_walk using wpAny_typeOf t4, gather_src (A := A.in1) C t5 ok hn
  intro g tk got hk hi
  show wpAny _ _ (Builtin.Tuple.tupleExact got.toList.toArray >>= fun v => ret v) _ _ _
  have e : got.toList.toArray = got := by simp
  unfold Builtin.Tuple.tupleExact
  rw [e]
  exact wpAny_bind (wpAny_newObj_type (wpAny_pure (q g tk got hk hi)) (by show got.size ≤ sizeLine; rw [hi.1]; exact hn))
theorem call_tup_src {R : Value → Shared → Prop} (C : KdlSrc prog w T r d n P OK) (hh : A.handled = none) (ok : OK s.heap) (hn : n ≤ sizeLine)
    (q : ∀ (g : Heap) (tk : Nat) (got : Array Value), (∀ b o, s.heap.get? b = some o → g.get? b = some o) → ItemsOf P got n → R (.ref g.objs.size) { s with heap := g.push { cls := .type "tuple", data := .seq got }, toks := tk }) :
    wpAny (model prog w) A (call (.type "tuple") [.ref r]) R E s := by
  refine callType_codes (Q₁ := fun u t => t.TypeIs u "tuple" ∧ R u t) F.called_tuple (F.typeCall_tuple_1 _) F.entry_object_init
    (new_tup_src (A := A.in1) C hh ok hn fun g tk got hk hi => ⟨⟨_, Heap.get?_push_size _ rfl, rfl⟩, q g tk got hk hi⟩) fun u t h => ?_
  exact ⟨h.1, F.args_object_init_2 u _, object_init_meets F.called_tuple.init.lookup F.called_tuple.made (by decide) prog w A.in1 _ t ⟨h.1, rfl, h.2⟩⟩
end
section
variable {X : Cx}
/-- tuple(d): a dict's keys -/
theorem call_tupD (hc : X.calm = true) : CallR X (.type "tuple") (fun xs H Q => ∃ (a : Addr) (kvs : List (Key × V)), xs = [.ref a] ∧ Rd H a (.dK kvs) ∧ ∀ p, H p = none → Q (.ref p) (upd H p (.tup (kvs.map fun kv => kV kv.1)))) := by
  intro pins s σ H xs us Q I r q
  obtain ⟨a, kvs, ex, hd, q⟩ := q
  subst ex
  obtain ⟨u, eu, rx⟩ := vals1 r
  subst eu
  cases rx
  obtain ⟨z, lo, vs, rel, dd⟩ := dk_rd I.hok hd
  obtain ⟨ep, hat⟩ := dd.dictAt
  have same : (kvs.map fun kv => kV kv.1) = vs.map fun p => kV p.1 := by
    have t := congrArg (List.map kV) rel.keys
    rw [List.map_map, List.map_map] at t
    exact t
  refine call_tup_src (PySem.W.kdl_dict (knd := mixKind X.prog X.w) (kvs := vs) (ep := ep) lo) (I.ok.hd hc) hat (by rw [← rel.length]; exact z) fun g tk got hk hi => ?_
  have rv : Vals (vs.map fun p => kV p.1) got.toList := keys_at (by rw [Array.length_toList]; exact hi.1) fun j v t => hi.2 j v (by rw [← Array.getElem?_toList]; exact t)
  have I1 : Inv X pins σ H { s with heap := g, toks := tk } := I.kept (t' := tk) hk
  have I2 : Inv X pins σ (upd H g.objs.size (.tup (kvs.map fun kv => kV kv.1))) { s with heap := g.push { cls := .type "tuple", data := .seq got }, toks := tk } :=
    I1.laid (t' := tk) (fun b o e => Heap.get?_push_of_some _ e) (Nat.le_refl _) (show ObjOk X.prog X.w _ _ _ (.tup (kvs.map fun kv => kV kv.1)) from ⟨by rw [List.length_map]; exact z, got.toList, by rw [same]; exact rv, by
      have e : got.toList.toArray = got := by simp
      rw [e]
      exact IsTup.new _ _⟩)
  exact ⟨.ref g.objs.size, _, I2, rfl, q _ (I1.hok.fresh (Nat.le_refl _))⟩
end
end My

/-! My own rules: o.m(k = v, ..) where the method may raise; a comprehension over d.items(). -/
namespace My
open PySem PySem.Spec PyProof.Rows L2
section
variable {X : Cx} {CX : CXT} {k : Nat} {C f : Addr} {fd : FuncData} {ps : List Str} {sp : Sp} {E : L2.St → XK}
variable {ks : List Str} {g : List Value → List Value → List Value} {gV : List V → List V → List V} {o : Expr} {m : Str} {pos apos : Pos} {kws : List Keyword} {ta : TE} {tk : TA}
/-- o.m(k = v, ..), nothing by place, what is let out wished for at the caller's slots -/
def tMethKE (C : Addr) (m : Str) (sp : Sp) (gV : List V → List V → List V) (E : L2.St → XK) (ta : TE) (tk : TA) : TE := fun σ H Q => ta σ H fun x H1 => ∃ a dx fs, x = .ref a ∧ H1 a = some (.ins C dx fs) ∧ fs.lookup m = none ∧ tk σ H1 fun zs H2 => sp (gV [x] zs) H2 Q (E σ)
theorem pe_methKE {pl : Sem Bool} (he : PE X o ta) (c : Cls X.K C) (hm : Meth X.K C m f) (F : FnOk X.prog X.w X.K X.mg X.base CX k f fd ps sp) (hr : Room k X.A) (hb : KBinds X.K fd ps ks g gV) (hx : ∀ σ, PassesAt CX X σ (E σ)) (hkw : PK X kws tk)
    (hall : (backToKw pos (keywordEach kws X.env)).all (·.1.isSome) = true := by rfl) (hks : (backToKw pos (keywordEach kws X.env)).filterMap (·.1) = ks := by rfl)
    (hpl : ((backTo pos (starEach [] X.env)).any (·.1) || (backToKw pos (keywordEach kws X.env)).any (·.1.isNone)) = false := by rfl)
    (ht : eval (.Call (.Attribute o m apos) [] kws pos) X.env = (do
      let ov ← eval o X.env
      standAt apos.atName
      let (f, first) ← holding [ov] (getMethod ov m pl)
      callWith pos f first (backTo pos (starEach [] X.env)) (backToKw pos (keywordEach kws X.env))) := by rfl) :
    PE X (.Call (.Attribute o m apos) [] kws pos) (tMethKE C m sp gV E ta tk) := by
  refine ⟨fun pins s σ H Q I h => ?_⟩
  refine PySem.W.methodCall_KW (pl := pl) (thn (he.run pins s σ H _ I h) fun u s1 ⟨x, H1, I1, rx, a, dx, fs, ex, ea, l, q⟩ => ?_) ht
  subst ex
  obtain rfl : u = Value.ref a := rx
  refine getmeth_ok I1 ea c hm l ?_
  refine PySem.W.callWith_KW0 (first := [.ref a]) (h₀ := X.base) I.ok.mod.kin hm.kp hall (thn (hkw.run pos pins s1 σ H1 _ I1 q) fun ws s2 ⟨zs, H2, I2, rz, q2⟩ => ⟨I2.kIn, ?_⟩) hpl
  rw [hks]
  exact run_fnkS (us := [.ref a]) (vs := [.ref a]) F hr hb (hx σ) I2 (.cons rfl .nil) rz q2
end
/-- a dict's comprehension over the items of a dict that is locked -/
theorem dc_items {d : Addr} {o : Obj} {kvs : List (Key × V)} {g : TG} {tt : TT} {tk tv : TE} {vs : List Nat} {σ : L2.St} {H1 : Hp} {D : Addr} {Qd : Hp → Prop} (Pv : Nat → Hp → Prop) (h0 : Pv 0 (upd H1 D (.dK []))) (hl : ∀ i H, i ≤ kvs.length → Pv i H → H d = some (.frz o (.dK kvs)))
    (hs : ∀ i k v T H, kvs[i]? = some (k, v) → Pv i H → H T = none → g (.ref T) (wipe σ vs) (upd H T (.tup [kV k, v])) fun σ2 H2 => wipe σ2 vs = wipe σ vs ∧ tt σ2 H2 fun b H3 =>
      if b = true then tk σ2 H3 fun y H4 => tv σ2 H4 fun z H5 => ∃ kvs k, y = kV k ∧ H5 D = some (.dK kvs) ∧ kvs.length < sizeLine ∧ Pv (i + 1) (upd H5 D (.dK (putK kvs k z))) else Pv (i + 1) H3) (hd : ∀ H, Pv kvs.length H → Qd H) :
    ∃ W : Nat → Nat → Hp → Prop, (∃ m, W 0 m (upd H1 D (.dK []))) ∧ ∀ i m H, W i m H →
      ((Iti d o kvs).stop i H ∧ Qd H) ∨ ((Iti d o kvs).go i H ∧ ∃ Nx : Hp → Prop, (∀ H', Nx H' → ∃ m', m' < m ∧ W (i + 1) m' H') ∧ ∀ x H', (Iti d o kvs).yld i H x H' → g x (wipe σ vs) H' fun σ2 H2 => wipe σ2 vs = wipe σ vs ∧ tt σ2 H2 fun b H3 =>
        if b = true then tk σ2 H3 fun y H4 => tv σ2 H4 fun z H5 => ∃ kvs k, y = kV k ∧ H5 D = some (.dK kvs) ∧ kvs.length < sizeLine ∧ Nx (upd H5 D (.dK (putK kvs k z))) else Nx H3) := by
  refine ⟨fun i m H => m = kvs.length - i ∧ i ≤ kvs.length ∧ Pv i H, ⟨kvs.length, by simp, Nat.zero_le _, h0⟩, ?_⟩
  rintro i m H ⟨rfl, hi, p⟩
  have q := hl i H hi p
  rcases Nat.lt_or_ge i kvs.length with lt | ge
  · refine .inr ⟨⟨q, lt⟩, Pv (i + 1), fun H' p' => ⟨kvs.length - (i + 1), by omega, rfl, lt, p'⟩, ?_⟩
    rintro x H' ⟨T, k, v, e, rfl, nT, rfl⟩
    exact hs i k v T H e p nT
  · have e : i = kvs.length := by omega
    subst e
    exact .inl ⟨⟨q, Nat.le_refl _⟩, hd H p⟩
end My

/-! My own rules: raise X(), X an own exception class without an own __init__; o.m() that may raise. -/
namespace My
open PySem PySem.Spec PyProof.Rows L2
section
variable {X : Cx}
theorem pmk_own0 {C : Addr} {bmB : List Value} {B newId initId : String} {x : Str} {p pos : Pos} (F : ExcBaseFacts B newId initId bmB) (q : PySem.W.excIn X.K C bmB newId = true) (gC : X.mg x = some (.ref C)) (kC : PySem.W.keepIn X.K (.ref C) = true) (r : Raises X (.ref C)) (hg : Gl X x) (hdb : (x == ("__debug__" : Str)) = false := by decide) :
    PMk X (.Call (.Name x p) [] [] pos) (fun _ H Q => Q (.ref C) none H) := by
  intro pins s σ H Q I h
  refine wpAny_Call_Name_kw (ld_glob I hg gC ?_ hdb)
  refine PySem.W.callWith_KW0 (h₀ := X.base) I.ok.mod.kin kC (by rfl) (thn (pk_nil.run pos pins s σ H (fun vs H1 => vs = [] ∧ H1 = H) I ⟨rfl, rfl⟩) fun ws s2 ⟨zs, H2, I2, rz, ez, eH⟩ => ⟨I2.kIn, ?_⟩) (by rfl)
  subst eH
  show wpAny _ _ (call (.ref C) []) _ _ _
  obtain ⟨bm, N, nm, qn, bs, hdct, sn, sub, ab, col, dd, k0, k1, k2, k3, k5, mN, hC, hN, hni, T⟩ := exc_obj I2.kIn q
  exact wpAny_call_exc_subT F T hC hN hni (fun h' e hm => mk_of I2 hm r h (I2.hok.gone hm.new)) (Nat.zero_le _)
end
/-- the receiver alone -/
def kFst {α : Type} (us _ : List α) : List α := us
theorem kbinds_alone {K : PySem.W.Frag} {fd : FuncData} {p1 : Str} (h : ∀ (s : Shared) (u : Value), BindsTo s fd ⟨[u], []⟩ [(p1, u)]) : KBinds K fd [p1] [] kFst kFst where
  to := fun s us ws _ hl => match us, hl with
    | [u], _ => h s u
  rel := fun r _ => r
end My

/-! My own rules: dict comprehensions over a list, list comprehensions over d.items(). -/
namespace My
open PySem PySem.Spec PyProof.Rows L2
/-- {k: v for .. in xs}, xs a list that stays -/
theorem dc_list {K : PySem.W.Frag} {a : Addr} {xs : List V} {g : TG} {tt : TT} {tk tv : TE} {vs : List Nat} {σ : L2.St} {H1 : Hp} {D : Addr} {Qd : Hp → Prop} (Pv : Nat → Hp → Prop) (h0 : Pv 0 (upd H1 D (.dK []))) (hl : ∀ i H, i ≤ xs.length → Pv i H → SqL K H a xs)
    (hs : ∀ i x H, xs[i]? = some x → Pv i H → g x (wipe σ vs) H fun σ2 H2 => wipe σ2 vs = wipe σ vs ∧ tt σ2 H2 fun b H3 =>
      if b = true then tk σ2 H3 fun y H4 => tv σ2 H4 fun z H5 => ∃ kvs k, y = kV k ∧ H5 D = some (.dK kvs) ∧ kvs.length < sizeLine ∧ Pv (i + 1) (upd H5 D (.dK (putK kvs k z))) else Pv (i + 1) H3) (hd : ∀ H, Pv xs.length H → Qd H) :
    ∃ W : Nat → Nat → Hp → Prop, (∃ m, W 0 m (upd H1 D (.dK []))) ∧ ∀ i m H, W i m H →
      ((Itl K a).stop i H ∧ Qd H) ∨ ((Itl K a).go i H ∧ ∃ Nx : Hp → Prop, (∀ H', Nx H' → ∃ m', m' < m ∧ W (i + 1) m' H') ∧ ∀ x H', (Itl K a).yld i H x H' → g x (wipe σ vs) H' fun σ2 H2 => wipe σ2 vs = wipe σ vs ∧ tt σ2 H2 fun b H3 =>
        if b = true then tk σ2 H3 fun y H4 => tv σ2 H4 fun z H5 => ∃ kvs k, y = kV k ∧ H5 D = some (.dK kvs) ∧ kvs.length < sizeLine ∧ Nx (upd H5 D (.dK (putK kvs k z))) else Nx H3) := by
  refine ⟨fun i m H => m = xs.length - i ∧ i ≤ xs.length ∧ Pv i H, ⟨xs.length, by simp, Nat.zero_le _, h0⟩, ?_⟩
  rintro i m H ⟨rfl, hi, p⟩
  have q := hl i H hi p
  rcases Nat.lt_or_ge i xs.length with lt | ge
  · refine .inr ⟨⟨xs, xs[i], q, by simp [lt]⟩, Pv (i + 1), fun H' p' => ⟨xs.length - (i + 1), by omega, rfl, lt, p'⟩, fun x H' y => ?_⟩
    obtain ⟨e, y⟩ := y
    subst e
    exact hs i x _ (y xs q) p
  · have e : i = xs.length := by omega
    subst e
    exact .inl ⟨⟨xs, q, Nat.le_refl _⟩, hd H p⟩
/-- [e for k, v in d.items()], d locked -/
theorem lc_items {d : Addr} {o : Obj} {kvs : List (Key × V)} {g : TG} {tt : TT} {te : TE} {vs : List Nat} {σ : L2.St} {H1 : Hp} {D : Addr} {Qd : Hp → Prop} (Pv : Nat → Hp → Prop) (h0 : Pv 0 (upd H1 D (.lst []))) (hl : ∀ i H, i ≤ kvs.length → Pv i H → H d = some (.frz o (.dK kvs)))
    (hs : ∀ i k v T H, kvs[i]? = some (k, v) → Pv i H → H T = none → g (.ref T) (wipe σ vs) (upd H T (.tup [kV k, v])) fun σ2 H2 => wipe σ2 vs = wipe σ vs ∧ tt σ2 H2 fun b H3 =>
      if b = true then te σ2 H3 fun y H4 => ∃ acc, H4 D = some (.lst acc) ∧ acc.length < sizeLine ∧ Pv (i + 1) (upd H4 D (.lst (acc ++ [y]))) else Pv (i + 1) H3) (hd : ∀ H, Pv kvs.length H → Qd H) :
    ∃ W : Nat → Nat → Hp → Prop, (∃ m, W 0 m (upd H1 D (.lst []))) ∧ ∀ i m H, W i m H →
      ((Iti d o kvs).stop i H ∧ Qd H) ∨ ((Iti d o kvs).go i H ∧ ∃ Nx : Hp → Prop, (∀ H', Nx H' → ∃ m', m' < m ∧ W (i + 1) m' H') ∧ ∀ x H', (Iti d o kvs).yld i H x H' → g x (wipe σ vs) H' fun σ2 H2 => wipe σ2 vs = wipe σ vs ∧ tt σ2 H2 fun b H3 =>
        if b = true then te σ2 H3 fun y H4 => ∃ acc, H4 D = some (.lst acc) ∧ acc.length < sizeLine ∧ Nx (upd H4 D (.lst (acc ++ [y]))) else Nx H3) := by
  refine ⟨fun i m H => m = kvs.length - i ∧ i ≤ kvs.length ∧ Pv i H, ⟨kvs.length, by simp, Nat.zero_le _, h0⟩, ?_⟩
  rintro i m H ⟨rfl, hi, p⟩
  have q := hl i H hi p
  rcases Nat.lt_or_ge i kvs.length with lt | ge
  · refine .inr ⟨⟨q, lt⟩, Pv (i + 1), fun H' p' => ⟨kvs.length - (i + 1), by omega, rfl, lt, p'⟩, ?_⟩
    rintro x H' ⟨T, k, v, e, rfl, nT, rfl⟩
    exact hs i k v T H e p nT
  · have e : i = kvs.length := by omega
    subst e
    exact .inl ⟨⟨q, Nat.le_refl _⟩, hd H p⟩
end My

set_option maxHeartbeats 4000000
/-! My own rules: set(xs) of a list of texts, sorted of such a set. -/
namespace My
open PySem PySem.Spec PyProof.Rows L2
/-- the text of an entry -/
def txOf (e : Int × Value) : Str := match e.2 with | .str k _ => k | _ => Str.empty
def TxE (P : Program) (w : World) (e : Int × Value) : Prop := ∃ k tk, e.2 = Value.str k tk ∧ e.1 = (PySem.strKind P w).hash k
/-- the set at a: its members are the texts ks, some of them maybe twice there -/
def TxSet (P : Program) (w : World) (g : Heap) (a : Addr) (ks : List Str) : Prop :=
  ∃ ob rows ep tb, g.get? a = some ob ∧ ob.ExactSet ∧ ob.data = .set rows ep tb ∧ (∀ e ∈ rows.toList, TxE P w e) ∧ (rows.toList.map txOf).Nodup ∧ (∀ k, k ∈ rows.toList.map txOf ↔ k ∈ ks) ∧
    rows.size ≤ ks.length ∧ rows.size < scanBound ∧ tb.fits rows.size = true ∧ Ris tb.place.toList ∧ (w.params.followText "set-order" = true ∨ tb.led = true)
section
variable {P : Program} {w : World} {g g' : Heap} {a : Addr} {ks : List Str}
theorem TxSet.keep (R : TxSet P w g a ks) (k : ∀ o, g.get? a = some o → g'.get? a = some o) : TxSet P w g' a ks := by
  obtain ⟨ob, rows, ep, tb, ho, rest⟩ := R
  exact ⟨ob, rows, ep, tb, k ob ho, rest⟩
theorem tx_elems {l : List (Int × Value)} (g : ∀ e ∈ l, TxE P w e) : ElemsOf (PySem.strKind P w) l := fun e he => by
  obtain ⟨k, tk, h1, h2⟩ := g e he
  exact ⟨⟨k, by rw [h1]; exact strKind_is P w k tk, h2⟩, by rw [h1] <;> rfl⟩
theorem tx_is {e : Int × Value} (g : TxE P w e) (k : Str) : (PySem.strKind P w).is k e.2 = true ↔ txOf e = k := by
  obtain ⟨k0, tk, h1, _⟩ := g
  unfold txOf
  rw [h1, KeyKind.is_eq_decide (strKind_is P w k0 tk) k]
  simp only [decide_eq_true_eq]
  exact eq_comm
theorem tx_mem {l : List (Int × Value)} (g : ∀ e ∈ l, TxE P w e) (k : Str) : k ∈ l.map txOf ↔ ∃ e ∈ l, (PySem.strKind P w).is k e.2 = true := by
  rw [List.mem_map]
  constructor
  · rintro ⟨e, he, q⟩
    exact ⟨e, he, (tx_is (g e he) k).mpr q⟩
  · rintro ⟨e, he, q⟩
    exact ⟨e, he, (tx_is (g e he) k).mp q⟩
end
section
variable {P : Program} {w : World} {A : Around} {E : Value → Shared → Prop} {s : Shared} {a : Addr} {ks : List Str}
theorem tx_tail {gw : Bool → Sem Unit} (hgw : ∀ (b : Bool) (s₁ : Shared) (Q' : Unit → Shared → Prop), Q' () s₁ → wpAny (model P w) A (gw b) Q' E s₁)
    {ob : Obj} {rows : Array (Int × Value)} {ep : Nat} {tb : SetTable} (ho : s.heap.get? a = some ob) (hx : ob.ExactSet) (hd : ob.data = .set rows ep tb)
    {r1 : Array (Int × Value)} {t2 : SetTable} {ks' : List Str} (g1 : ∀ e ∈ r1.toList, TxE P w e) (nd1 : (r1.toList.map txOf).Nodup) (m1 : ∀ k, k ∈ r1.toList.map txOf ↔ k ∈ ks') (le1 : r1.size ≤ ks'.length)
    (hb1 : r1.size < scanBound) (hf2 : t2.fits r1.size = true) (hr : Ris t2.place.toList) (hl : w.params.followText "set-order" = true ∨ t2.led = true) {dm : Bool} {R : Option Bool → Shared → Prop}
    (hR : ∀ g', Heap.SameBut a s.heap g' → TxSet P w g' a ks' → R (some true) { s with heap := g' }) :
    wpAny (model P w) A (do
        storeSet a r1 t2
        if (!dm && t2.tooFull) = true then do
            gw (relayAll t2 r1 (SetTable.grown r1.size)).2.2
            storeSet a (relayAll t2 r1 (SetTable.grown r1.size)).1 (relayAll t2 r1 (SetTable.grown r1.size)).2.1
            pure (some true)
          else pure (some true)) R E s := by
  refine wpAny_bind (wpAny_storeSet_of ho hd ?_ (fits_of_scanBound hb1))
  have ho1 := store_at (es' := r1) (t' := t2) ho hd
  have sb1 := Heap.SameBut.update s.heap a (Obj.putSet r1 t2)
  split
  · have pm := relayAll_perm t2 r1 (SetTable.grown r1.size)
    have q1 := relayAll_fits t2 r1 (SetTable.grown r1.size)
    have q2 := relayAll_ris t2 r1 (SetTable.grown r1.size)
    have q3 := relayAll_led t2 r1 (SetTable.grown r1.size)
    generalize relayAll t2 r1 (SetTable.grown r1.size) = Z at pm q1 q2 q3 ⊢
    obtain ⟨r2, t3, gave⟩ := Z
    dsimp only at pm q1 q2 q3 ⊢
    have hsz : r2.size = r1.size := by rw [← Array.length_toList, pm.length_eq, Array.length_toList]
    have hb2 : r2.size < scanBound := hsz ▸ hb1
    refine wpAny_bind (hgw _ _ _ ?_)
    refine wpAny_bind (wpAny_storeSet_of ho1 rfl ?_ (fits_of_scanBound hb2))
    have ho2 := store_at (es' := r2) (t' := t3) ho1 rfl
    refine wpAny_pure (hR _ (sb1.trans (Heap.SameBut.update _ a _)) ?_)
    exact ⟨_, r2, _, t3, ho2, hx, rfl, fun e he => g1 e (pm.mem_iff.mp he), (pm.map txOf).nodup_iff.mpr nd1, fun k => (pm.map txOf).mem_iff.trans (m1 k), by rw [hsz]; exact le1, hb2, q1, q2,
      hl.imp id fun z => by rw [q3]; exact z⟩
  · exact wpAny_pure (hR _ sb1 ⟨_, r1, _, t2, ho1, hx, rfl, g1, nd1, m1, le1, hb1, hf2, hr, hl⟩)
theorem tx_add {k : Str} {tk : Tok} {Q : Bool → Shared → Prop} (R : TxSet P w s.heap a ks) (room : ks.length + 1 < scanBound)
    (hQ : ∀ b g', Heap.SameBut a s.heap g' → TxSet P w g' a (ks ++ [k]) → Q b { s with heap := g' }) :
    wpAny (model P w) A (setAddHashed a (.str k tk) ((PySem.strKind P w).hash k)) Q E s := by
  obtain ⟨ob, rows, ep, tb, ho, hx, hd, g, nd, hm, hle, hb, hf, hr, hl⟩ := R
  have hkey : (PySem.strKind P w).is k (.str k tk) = true := strKind_is P w k tk
  have hsc : (Value.str k tk).scannable = true := rfl
  have hel : ElemsOf (PySem.strKind P w) rows.toList := tx_elems g
  unfold setAddHashed setAddHashedIn
  refine wpAny_holding (wpAny_bind (wpAny_setState_of ho hd hf ?_))
  dsimp only
  rw [byScan_of hsc hb hel]
  simp only [↓reduceIte]
  unfold setAddByScan
  refine wpAny_bind ?_
  refine wpAny_bind (wpAny_rule ?_)
  refine wpAny_bind (wpAny_setScan_of hkey ho hd hf hel ?_)
  cases hfi : List.findIdx? (fun e => (PySem.strKind P w).is k e.2) rows.toList with
  | some j =>
    dsimp only
    obtain ⟨hj, pj, _⟩ := List.findIdx?_eq_some_iff_getElem.mp hfi
    have hk : k ∈ ks := (hm k).mp ((tx_mem (P := P) (w := w) g k).mpr ⟨rows.toList[j], List.getElem_mem hj, pj⟩)
    refine wpAny_pure (wpAny_pure ?_)
    refine hQ _ s.heap (Heap.SameBut.refl a s.heap) ⟨ob, rows, ep, tb, ho, hx, hd, g, nd, fun i => ?_, by rw [List.length_append]; omega, hb, hf, hr, hl⟩
    rw [hm i, List.mem_append, List.mem_singleton]
    exact ⟨.inl, fun z => z.elim id fun e => e ▸ hk⟩
  | none =>
    dsimp only
    have hnk : k ∉ rows.toList.map txOf := fun z => by
      obtain ⟨e, he, q⟩ := (tx_mem (P := P) (w := w) g k).mp z
      have c := List.findIdx?_eq_none_iff.mp hfi e he
      rw [q] at c
      cases c
    have hgw : ∀ (b : Bool) {s₁ : Shared} {Q' : Unit → Shared → Prop}, Q' () s₁ → wpAny (model P w) A (match b with | true => rule "set.scan.the-table-gave-way" | false => pure ()) Q' E s₁ :=
      fun b s₁ Q' q => by cases b <;> first | exact wpAny_pure q | exact wpAny_rule q
    have pm := layNew_perm tb rows ((PySem.strKind P w).hash k) (.str k tk)
    have q1 := layNew_fits tb rows ((PySem.strKind P w).hash k) (.str k tk)
    have q2 := layNew_ris tb rows ((PySem.strKind P w).hash k) (.str k tk) hr
    have q3 := layNew_led tb rows ((PySem.strKind P w).hash k) (.str k tk)
    generalize layNew tb rows ((PySem.strKind P w).hash k) (.str k tk) = Z at pm q1 q2 q3 ⊢
    obtain ⟨r1, t1, dm, gave⟩ := Z
    dsimp only at pm q1 q2 q3 ⊢
    rw [Array.toList_push] at pm
    have pc : r1.toList.Perm (((PySem.strKind P w).hash k, Value.str k tk) :: rows.toList) := pm.trans (List.perm_append_singleton _ _)
    have pk : (r1.toList.map txOf).Perm (k :: rows.toList.map txOf) := pc.map txOf
    have g1 : ∀ e ∈ r1.toList, TxE P w e := fun e he => by
      rcases List.mem_cons.mp (pc.mem_iff.mp he) with z | z
      · rw [z]; exact ⟨k, tk, rfl, rfl⟩
      · exact g e z
    have nd1 : (r1.toList.map txOf).Nodup := pk.nodup_iff.mpr (List.nodup_cons.mpr ⟨hnk, nd⟩)
    have m1 : ∀ i, i ∈ r1.toList.map txOf ↔ i ∈ ks ++ [k] := fun i => by
      rw [pk.mem_iff, List.mem_cons, hm i, List.mem_append, List.mem_singleton]
      exact Or.comm
    have hsz : r1.size = rows.size + 1 := by rw [← Array.length_toList, pc.length_eq, List.length_cons, Array.length_toList]
    have le1 : r1.size ≤ (ks ++ [k]).length := by rw [hsz, List.length_append]; show _ ≤ ks.length + 1; omega
    have hb1 : r1.size < scanBound := by omega
    have hled : w.params.followText "set-order" = true ∨ t1.led = true := hl.imp id fun z => by rw [q3]; exact z
    refine wpAny_bind (hgw _ ?_)
    split
    · refine wpAny_bind ?_
      rw [hashByValue_scannable 8 hsc]
      refine wpAny_pure ?_
      refine tx_tail ?_ ho hx hd g1 nd1 m1 le1 hb1 ?_ ?_ ?_ ?_
      · intro b s₁ Q' q; cases b <;> first | exact wpAny_pure q | exact wpAny_rule q
      · first | (split <;> first | exact q1 | exact SetTable.fits_plain_off q1) | exact q1
      · first | (split <;> exact q2) | exact q2
      · first | (split <;> exact hled) | exact hled
      · intro g' sb r; dsimp only; exact wpAny_pure (hQ _ g' sb r)
    · refine wpAny_bind (wpAny_pure ?_)
      simp only [↓reduceIte]
      refine tx_tail ?_ ho hx hd g1 nd1 m1 le1 hb1 q1 q2 hled ?_
      · intro b s₁ Q' q; cases b <;> first | exact wpAny_pure q | exact wpAny_rule q
      · intro g' sb r; dsimp only; exact wpAny_pure (hQ _ g' sb r)
theorem tx_fresh {g : Heap} (ks : List Str) (ho : g.get? a = some { cls := .type "set", dict := none, data := .set #[] 0 (.fresh 0 0 (!w.params.followText "set-order")) }) : TxSet P w g a (ks.take 0) :=
  ⟨_, #[], 0, _, ho, ⟨rfl, rfl, rfl⟩, rfl, (fun e he => by simp at he), (by simp), (fun k => by simp), Nat.zero_le _, (by decide), (by rfl), List.Pairwise.nil, by
    show _ ∨ (!w.params.followText "set-order") = true
    cases w.params.followText "set-order"
    · exact .inr rfl
    · exact .inl rfl⟩
theorem tx_update {I : Addr} {fp wr : List Addr} {G : Array GenState → Array GenState → Prop} {n : Nat} {Pv : Nat → Value → Prop} {St : Nat → Shared → Prop} {R : Result → Shared → Prop}
    (W : WalksS P w A.in1 I fp wr G n Pv St) (D : Addr) (hDf : D ∉ fp) (ks : List Str) (hn : n = ks.length) (hb : ks.length + 1 < scanBound) (hval : ∀ i v, Pv i v → ∃ k t, ks[i]? = some k ∧ v = .str k t) :
    ∀ (m i : Nat) (s : Shared), n - i = m → i ≤ n → St i s → TxSet P w s.heap D (ks.take i) →
      (∀ s', Moved (D :: wr) G s s' → TxSet P w s'.heap D ks → R (.ok (.ret .none)) s') →
      codeAny (model P w) A (.builtin "set.update.loop" ⟨[.ref D, .ref I], []⟩) R s := by
  have hDw : D ∉ wr := fun h => hDf (W.sub _ h)
  have sub : ∀ b ∈ wr, b ∈ D :: wr := fun b hb => List.mem_cons_of_mem _ hb
  intro m
  induction m with
  | zero =>
    intro i s hm hi hst hS hR
    obtain rfl : i = n := by omega
    refine codeAny_builtin F.entry_set_update_loop ?_
    rw [Around.under_plainId F.plain_set_update_loop _]
    show wpAny _ A.in1 (pyNext (.ref I) >>= _) _ _ s
    refine wpAny_bind (W.done s _ _ hst fun s' mv => ?_)
    show wpAny _ A.in1 (ret Value.none) _ _ s'
    have e : ks.take i = ks := List.take_of_length_le (by omega)
    rw [e] at hS
    exact wpAny_pure (hR s' (mv.mono sub) (hS.keep fun o e => mv.heap D o hDw e))
  | succ m ih =>
    intro i s hm hi hst hS hR
    have hlt : i < n := by omega
    refine codeAny_builtin F.entry_set_update_loop ?_
    rw [Around.under_plainId F.plain_set_update_loop _]
    show wpAny _ A.in1 (pyNext (.ref I) >>= _) _ _ s
    refine wpAny_bind (W.item i s _ _ hlt hst fun v s' hP hst' mv => ?_)
    obtain ⟨z, t, hz, rfl⟩ := hval i v hP
    have hS' : TxSet P w s'.heap D (ks.take i) := hS.keep fun o e => mv.heap D o hDw e
    show wpAny _ A.in1 (holding [Value.str z t] (setAdd D (.str z t)) >>= _) _ _ s'
    refine wpAny_bind (wpAny_holding ?_)
    unfold setAdd
    refine wpAny_holding ?_
    refine wpAny_bind ((PySem.strKind P w).pyHash (k := z) (strKind_is _ _ _ _) ?_)
    refine tx_add (s := { s' with toks := s'.toks + 1 }) hS' (by rw [List.length_take]; omega) fun b g' sb hS2 => ?_
    have e : ks.take i ++ [z] = ks.take (i + 1) := by rw [List.take_add_one, hz]; rfl
    rw [e] at hS2
    refine wpAny_pure ⟨plainId_quiet F.plain_set_update_loop _, ih (i + 1) _ (by omega) hlt (W.frame _ s' _ _ hst' (Nat.le_succ _) fun b hb o e => ?_) hS2 fun s'' mv2 hS3 => ?_⟩
    · rw [sb.2 b (fun h : b = D => hDf (by rw [← h]; exact hb))]; exact e
    · refine hR s'' (Moved.trans W.gtrans ((mv.mono sub).then_heap (Nat.le_succ _) fun b o hb e => ?_) mv2) hS3
      rw [sb.2 b (fun h : b = D => hb (by rw [h]; exact List.mem_cons_self))]; exact e
abbrev freshO (w : World) : Obj := { cls := .type "set", dict := none, data := .set #[] 0 (.fresh 0 0 (!w.params.followText "set-order")) }
set_option maxHeartbeats 6400000 in
theorem tx_set {l : Addr} {its : Array Value} (ks : List Str) {Q : Value → Shared → Prop} (hh : A.handled = none) (hl : s.heap.IsList l its) (hit : PyProof.Rows.StrsAre its.toList ks) (hb : ks.length + 1 < scanBound)
    (h : ∀ (g' : Heap) (tk : Nat), TxSet P w g' s.heap.objs.size ks → (∀ b o, s.heap.get? b = some o → g'.get? b = some o) → Q (.ref s.heap.objs.size) { s with heap := g', toks := tk }) :
    wpAny (model P w) A (call (.type "set") [.ref l]) Q E s := by
  have hsz : its.size = ks.length := by
    rw [← PyProof.Rows.StrsAre.len_eq hit, Array.length_toList]
  obtain ⟨c, tl, hmro⟩ := F.called_set.mro
  have hmade := F.called_set.made
  have hsub := F.called_set.sub
  refine wpAny_call (codeAny_of_tree ?_)
  show wpAny _ _ (callAny (.type "set") _) _ _ _
  refine wpAny_pure ⟨Code.quiet_builtin _ (by decide +kernel), codeAny_builtin F.entry_type_call ?_⟩
  rw [Around.under_plain (weight_type_call_type "set" [.ref l] []) rfl]
  have f1 := F.called_set.notType
  have f2 := F.called_set.canCreate
  have f3 := F.typeCall_set_1 (.ref l)
  repeat (any_goals (first | assumption | wp_step))
  generalize hO : ({ cls := .type "set", dict := none, data := .set #[] 0 (.fresh 0 0 (!w.params.followText "set-order")) } : Obj) = O
  refine codeAny_mono (code_set_led1 (.ref l) (E := E) (Q₁ := fun ob s₁ => ob = .ref s.heap.objs.size ∧ s₁ = { s with heap := s.heap.push O }) ⟨rfl, by rw [hO]⟩) fun r s₁ hr => ?_
  cases r with
  | error e => exact hr
  | ok fl =>
    cases fl with
    | ret ob =>
      obtain ⟨rfl, rfl⟩ := hr
      have hcO : O.cls = .type "set" := by rw [← hO]
      have hS : (s.heap.push O).get? s.heap.objs.size = some O := Heap.get?_push_size _ (by rw [← hO]; rfl)
      have hT : Shared.TypeIs { s with heap := s.heap.push O } (.ref s.heap.objs.size) "set" := ⟨_, hS, hcO⟩
      have f4 := F.called_set.init.lookup
      have f5 := F.called_set.init.bind (.ref s.heap.objs.size)
      repeat (any_goals (first | assumption | wp_step))
      refine codeAny_mono (codeAny_call_builtin (R := wants (fun r s₂ => r = .none ∧ ∃ g' tk, s₂ = { s with heap := g', toks := tk } ∧ TxSet P w g' s.heap.objs.size ks ∧
          (∀ b o, s.heap.get? b = some o → g'.get? b = some o)) E) F.called_set.init.plain F.entry_set_init (check_set_init_1 hT ?_)) fun r₂ s₂ hr₂ => ?_
      · subst hO
        obtain ⟨ol, hol, hcl, nl, hdl⟩ := hl
        obtain ⟨ocls, odict, odata, oslots⟩ := ol
        simp only at hcl hdl
        subst hcl; subst hdl
        have hol' : (s.heap.push (freshO w)).get? l = some { cls := .type "list", dict := odict, data := .seq its nl, slots := oslots } := Heap.get?_push_of_some _ hol
        have f6 := F.sub_list_set
        have f7 := F.sub_list_frozenset
        have f8 : (Value.type "list" == Value.type "dict") = false := by decide
        have hl1 : (s.heap.push (freshO w)).IsList l its := ⟨_, hol', rfl, nl, rfl⟩
        unfold Builtin.«set.__init__» noKeywords Builtin.Frozenset.updateFrom
        generalize hPI : pyIter = PI
        wp_walk
        subst hPI
        refine wpAny_pyIter_list hl1 ?_
        refine wpAny_bind (wpAny_runValue ?_)
        have hlt : l < s.heap.objs.size := Heap.lt_size hol
        have hh3 : A.in1.in1.in1.handled = none := by simp [hh]
        have hne : l ≠ (s.heap.push (freshO w)).objs.size := by
          rw [Heap.size_push]; exact Nat.ne_of_lt (Nat.lt_succ_of_lt hlt)
        have hDf : s.heap.objs.size ∉ [(s.heap.push (freshO w)).objs.size, l] := by
          rw [Heap.size_push]; simp only [List.mem_cons, List.mem_singleton, List.not_mem_nil, or_false, not_or]
          exact ⟨Nat.ne_of_lt (Nat.lt_succ_self _), Nat.ne_of_gt hlt⟩
        have hval : ∀ (i : Nat) (v : Value), its[i]? = some v → ∃ k t, ks[i]? = some k ∧ v = .str k t := fun i v hv => by
          have hi : i < ks.length := by rw [← hsz]; exact (Array.getElem?_eq_some_iff.mp hv).1
          obtain ⟨t, e⟩ := SS.strs_at hit i v (by rw [Array.getElem?_toList]; exact hv)
          refine ⟨ks[i], t, List.getElem?_eq_getElem hi, ?_⟩
          rw [e, List.getD_eq_getElem?_getD, List.getElem?_eq_getElem hi] <;> rfl
        refine tx_update ((Walks.list hh3 _ l hne its).toS) s.heap.objs.size
          hDf ks hsz hb hval (its.size - 0) 0 _ (by omega) (Nat.zero_le _)
          ⟨⟨_, Heap.get?_push_size _ rfl, rfl, rfl⟩, (hl1.push _)⟩ ?hS0 ?hR
        case hS0 =>
          have hget : ((s.heap.push (freshO w)).push { cls := .type "list_iterator", data := .fields #[.ref l, .int 0 0] }).get? s.heap.objs.size = some (freshO w) := Heap.get?_push_of_some _ hS
          exact tx_fresh ks hget
        case hR =>
          intro s' mv hS'
          obtain ⟨g', g2, d', tk', os'⟩ := s'
          have eg : g2 = s.gens := mv.gens
          have ed : d' = s.drawn := mv.drawn
          have eo : os' = s.os := mv.os
          subst eg; subst ed; subst eo
          show wpAny _ _ _ _ _ _
          refine wpAny_pure ?_
          show wpAny _ _ (ret Value.none) _ _ _
          refine wpAny_pure ⟨rfl, g', tk', rfl, hS', fun b o e => ?_⟩
          have hb0 : b < s.heap.objs.size := Heap.lt_size e
          have hb1 : b ≠ s.heap.objs.size := Nat.ne_of_lt hb0
          have hb2 : b ≠ (s.heap.push (freshO w)).objs.size := by
            rw [Heap.size_push]; exact Nat.ne_of_lt (Nat.lt_succ_of_lt hb0)
          exact mv.heap b o (by simp only [List.mem_cons, List.mem_singleton, List.not_mem_nil, or_false, not_or]; exact ⟨hb1, hb2⟩) (Heap.get?_push_of_some _ (Heap.get?_push_of_some _ e))
      · cases r₂ with
        | error e => exact hr₂
        | ok fl₂ =>
          cases fl₂ with
          | ret r =>
            obtain ⟨rfl, g', tk, rfl, hS', hk'⟩ := hr₂
            repeat (any_goals (first | assumption | wp_step))
            exact h _ _ hS' hk'
          | _ => exact hr₂.elim
    | _ => exact hr.elim
theorem tx_vals : ∀ (l : List Value), (∀ v ∈ l, ∃ k tk, v = Value.str k tk) → PyProof.Rows.StrsAre l (l.map fun v => txOf (0, v))
  | [], _ => .nil
  | v :: l, h => by
    obtain ⟨k, tk, rfl⟩ := h v List.mem_cons_self
    exact .cons k tk (tx_vals l fun v hv => h v (List.mem_cons_of_mem _ hv))
theorem tx_sorted {ks : List Str} {Q : Value → Shared → Prop} (R : TxSet P w s.heap a ks) (hh : A.handled = none) (h64 : ks.length < 64)
    (hQ : ∀ s' p (out : Array Value) (c : Nat) (ys : List Str), (∀ b o, s.heap.get? b = some o → s'.heap.get? b = some o) → s'.gens = s.gens → s'.os = s.os → s.heap.objs.size ≤ p →
      s'.heap.get? p = some (seqObj "list" out c) → PyProof.Rows.StrsAre out.toList ys → ys.Nodup → (∀ k, k ∈ ys ↔ k ∈ ks) → PyProof.Rows.sortedS ys = true → ys.length ≤ ks.length → Q (.ref p) s') :
    wpAny (model P w) A (call (.builtin "sorted") [.ref a]) Q E s := by
  obtain ⟨ob, rows, ep, tb, ho, hex, hd, g, nd, hm, hle, hb, hf, hr, hl⟩ := R
  refine Calls.call_function_entry kind_sorted plain_sorted entry_sorted (args_sorted1 _) ?_
  unfold Builtin.«sorted»
  refine wpAny_bind (m := checkCount "sorted" 1 1 _) (wpAny_pure ?_)
  refine wpAny_bind (collect_set (A := A.in1) hh ⟨ob, ho, hex.1, hd⟩ hf hb hr hl fun s1 vs k1 hz g1 o1 pm => ?_)
  have hvl : vs.length ≤ ks.length := by rw [pm.length_eq, List.length_map, Array.length_toList]; exact hle
  have hI := tx_vals vs fun v hv => by
    obtain ⟨e, he, q⟩ := List.mem_map.mp (pm.mem_iff.mp hv)
    obtain ⟨k, tk, h1, _⟩ := g e he
    exact ⟨k, tk, by rw [← q]; exact h1⟩
  have pk : (vs.map fun v => txOf (0, v)).Perm (rows.toList.map txOf) := by
    have q := pm.map fun v => txOf (0, v)
    rw [List.map_map] at q
    exact q
  refine wpAny_bind (wpAny_newList ?_ (by rw [sizeLine_eq]; omega))
  have hoL : (s1.heap.push (seqObj "list" vs.toArray 0)).get? s1.heap.objs.size = some (seqObj "list" vs.toArray 0) := Heap.get?_push_size _ rfl
  refine wpAny_bind (wpAny_holding (wpAny_call_entry slot_list_sort ⟨_, hoL, rfl⟩ entry_list_sort (list_sort_treeK strKind_oneLt hoL hI.keysOf (fun v₁ v₂ rest e => keyKind_strs (by rw [← e]; exact hI)) (by omega) fun st' a1 a2 => ⟨_, rfl, ?_⟩) (args_list_sort _)))
  obtain ⟨ys, b1, b2, b3⟩ := sorted_out_str hI a1 a2
  obtain ⟨c, hc⟩ := sortedHeap_at (vs := vs) (out := (arrOf st').map (·.2)) hoL
  have pn : ys.Perm (rows.toList.map txOf) := b2.trans pk
  refine wpAny_pure ⟨_, rfl, hQ _ s1.heap.objs.size _ c ys (fun b u e => ?_) g1 o1 hz hc b1 (pn.nodup_iff.mpr nd) (fun k => by rw [pn.mem_iff, hm k]) b3 ?_⟩
  · have q := k1 b u e
    have hlt := Heap.lt_size q
    show (sortedHeap (s1.heap.push (seqObj "list" vs.toArray 0)) s1.heap.objs.size vs _).get? b = some u
    rw [sortedHeap_old (Nat.ne_of_lt hlt) (by rw [size_push']; exact Nat.lt_succ_of_lt hlt)]
    exact Heap.get?_push_of_some _ q
  · rw [pn.length_eq, List.length_map, Array.length_toList]; exact hle
end
/-- the set of texts at a -/
def TxO (P : Program) (w : World) (a : Addr) (ks : List Str) : HO := .ext fun g => TxSet P w g a ks
section
variable {X : Cx}
theorem txO_new {P : Program} {w : World} {H : Hp} {g : Heap} {a : Addr} {ks : List Str} (R : TxSet P w g a ks) : ObjOk P w H g a (TxO P w a ks) := by
  have ⟨o, _, _, _, ho, _⟩ := R
  exact ⟨R, ⟨o, ho⟩, fun h1 h2 p k => TxSet.keep p k⟩
/-- set(xs), xs a list of texts -/
def rSetTx (K : PySem.W.Frag) (P : Program) (w : World) : List V → Hp → VK → Prop := fun xs H Q => ∃ (l : Addr) (ks : List Str), xs = [V.ref l] ∧ SqL K H l (ks.map V.str) ∧ ks.length < 4000 ∧
  ∀ a, H a = none → Q (.ref a) (upd H a (TxO P w a ks))
theorem cr_setTx (hc : X.calm = true) : CallR X (.type "set") (rSetTx X.K X.prog X.w) := by
  intro pins s σ H xs us Q I r h
  obtain ⟨l, ks, rfl, hl, hf, q⟩ := h
  rw [Vals.ref1 r]
  obtain ⟨its, rv, pl, hz⟩ := I.list hl
  have hn : H s.heap.objs.size = none := I.hok.fresh (Nat.le_refl _)
  refine tx_set (P := X.prog) (w := X.w) ks (I.ok.hd hc) pl.isList rv.strs (by unfold scanBound; omega) fun g' tk R k => ?_
  exact ⟨.ref s.heap.objs.size, upd H s.heap.objs.size (TxO X.prog X.w s.heap.objs.size ks), I.laid (t' := tk) k (Nat.le_refl _) (txO_new R), rfl, q _ hn⟩
/-- sorted of such a set -/
def rSortTx (P : Program) (w : World) : List V → Hp → VK → Prop := fun xs H Q => ∃ (a : Addr) (ks : List Str), xs = [V.ref a] ∧ H a = some (TxO P w a ks) ∧ ks.length < 64 ∧
  ∀ (ys : List Str) (p : Addr), ys.Nodup → (∀ k, k ∈ ys ↔ k ∈ ks) → PyProof.Rows.sortedS ys = true → ys.length ≤ ks.length → H p = none → Q (.ref p) (upd H p (.lst (ys.map V.str)))
theorem cr_sortTx (hc : X.calm = true) : CallR X (.builtin "sorted") (rSortTx X.prog X.w) := by
  intro pins s σ H xs us Q I r h
  obtain ⟨a, ks, rfl, ha, h64, q⟩ := h
  have R : TxSet X.prog X.w s.heap a ks := (I.hok a _ ha).1
  rw [Vals.ref1 r]
  refine tx_sorted R (I.ok.hd hc) h64 fun s' p out c ys k g o hp hg hi hnd hmem hso hle => ?_
  have hlen : (ys.map V.str).length ≤ sizeLine := by rw [List.length_map, sizeLine_eq]; omega
  have hn : H p = none := I.hok.fresh hp
  have J : Inv X pins σ (upd H p (.lst (ys.map V.str))) { s with heap := s'.heap, gens := s'.gens, drawn := s'.drawn, toks := s'.toks } :=
    I.call (ch := []) (Un.laid k hp hn) (I.hok.laid k hp ⟨hlen, out.toList, c, vals_of_strs hi, hg⟩) (by rw [g]; exact I.bare) (fun _ z => nomatch z)
  have e : s' = { s with heap := s'.heap, gens := s'.gens, drawn := s'.drawn, toks := s'.toks } := by
    cases s'
    cases s
    cases o
    rfl
  rw [e]
  exact ⟨.ref p, _, J, rfl, q ys p hnd hmem hso hle hn⟩
end
end My

/-! My own rules: a dict is locked, or was locked before; walks of locked dicts; two fors over a dict's values and each value's items. -/
namespace My
open PySem PySem.Spec PyProof.Rows L2
/-- as under a lock, where the thing may be locked before -/
def tMay (t : TS) : TS := fun D σ H => ∃ d u od, ∃ bk : Hp → Hp,
  ((H d = some u ∧ Mut (some u) ∧ bk = (fun H' => upd H' d u) ∧ ∀ od, t ⟨fun σ' H' => H' d = some (.frz od u) ∧ D.nx σ' (bk H'), fun v H' => H' d = some (.frz od u) ∧ D.rt v (bk H'), fun σ' H' => H' d = some (.frz od u) ∧ D.bk σ' (bk H'), fun σ' H' => H' d = some (.frz od u) ∧ D.ct σ' (bk H')⟩ σ (upd H d (.frz od u))) ∨
    (H d = some (.frz od u) ∧ bk = id ∧ t ⟨fun σ' H' => H' d = some (.frz od u) ∧ D.nx σ' (bk H'), fun v H' => H' d = some (.frz od u) ∧ D.rt v (bk H'), fun σ' H' => H' d = some (.frz od u) ∧ D.bk σ' (bk H'), fun σ' H' => H' d = some (.frz od u) ∧ D.ct σ' (bk H')⟩ σ H))
section
variable {X : Cx}
theorem ps_may {st : Stmt} {t : TS} (h : PS X st t) : PS X st (tMay t) := by
  refine ⟨fun pins s σ H D I hw => ?_⟩
  obtain ⟨d, u, od, bk, ⟨hd, mu, rfl, hw⟩ | ⟨hd, rfl, hw⟩⟩ := hw
  · exact (ps_lock h).run pins s σ H D I ⟨d, u, hd, mu, hw⟩
  · refine thn (h.run pins s σ _ _ I hw) fun f s1 q => ?_
    cases f with
    | next => obtain ⟨σ', H', I2, _, q⟩ := q; exact ⟨σ', H', I2, q⟩
    | brk => obtain ⟨σ', H', I2, _, q⟩ := q; exact ⟨σ', H', I2, q⟩
    | cont => obtain ⟨σ', H', I2, _, q⟩ := q; exact ⟨σ', H', I2, q⟩
    | ret v => obtain ⟨x, σ', H', I2, r, _, q⟩ := q; exact ⟨x, σ', H', I2, r, q⟩
end
theorem may_ask {t : TS} {D : Ends} {σ : L2.St} {H : Hp} {d : Addr} {kvs : List (Key × V)} (hd : Rd H d (.dK kvs))
    (k : ∀ od Hl, ∀ bk : Hp → Hp, Hl d = some (.frz od (.dK kvs)) → (∀ c, c ≠ d → Hl c = H c) → (∀ H' c, c ≠ d → bk H' c = H' c) → (∀ H', H' d = some (.frz od (.dK kvs)) → bk H' d = H d) →
      t ⟨fun σ' H' => H' d = some (.frz od (.dK kvs)) ∧ D.nx σ' (bk H'), fun v H' => H' d = some (.frz od (.dK kvs)) ∧ D.rt v (bk H'), fun σ' H' => H' d = some (.frz od (.dK kvs)) ∧ D.bk σ' (bk H'), fun σ' H' => H' d = some (.frz od (.dK kvs)) ∧ D.ct σ' (bk H')⟩ σ Hl) : tMay t D σ H := by
  rcases hd with hd | ⟨o, hd⟩
  · exact ⟨d, _, default, _, .inl ⟨hd, trivial, rfl, fun od => k od _ _ upd_same (fun c h => upd_ne h) (fun H' c h => upd_ne h) fun H' _ => by rw [hd]; exact upd_same⟩⟩
  · exact ⟨d, _, o, _, .inr ⟨hd, rfl, k o H id hd (fun c _ => rfl) (fun H' c _ => rfl) fun H' e => by rw [hd]; exact e⟩⟩
section
variable {d : Addr} {o : Obj} {kvs : List (Key × V)} {g : TG} {tb : TS} {D : Ends} {σ : L2.St} {H : Hp}
theorem for_vals (Pv : Nat → L2.St → Hp → Prop) (h0 : Pv 0 σ H) (hl : ∀ i σ H, i ≤ kvs.length → Pv i σ H → H d = some (.frz o (.dK kvs)))
    (hs : ∀ i k v σ H, kvs[i]? = some (k, v) → Pv i σ H → g v σ H fun σ2 H2 => tb { D with nx := Pv (i + 1), ct := Pv (i + 1), bk := D.nx } σ2 H2) (hd : ∀ σ H, Pv kvs.length σ H → D.nx σ H) :
    ∃ W : Nat → Nat → L2.St → Hp → Prop, (∃ m, W 0 m σ H) ∧ ∀ i m σ H, W i m σ H →
      ((Itd d o kvs).stop i H ∧ D.nx σ H) ∨ ((Itd d o kvs).go i H ∧ ∃ N : L2.St → Hp → Prop, (∀ σ' H', N σ' H' → ∃ m', m' < m ∧ W (i + 1) m' σ' H') ∧ ∀ x H', (Itd d o kvs).yld i H x H' → g x σ H' fun σ2 H2 => tb { D with nx := N, ct := N, bk := D.nx } σ2 H2) := by
  refine ⟨fun i m σ H => m = kvs.length - i ∧ i ≤ kvs.length ∧ Pv i σ H, ⟨kvs.length, by simp, Nat.zero_le _, h0⟩, ?_⟩
  rintro i m σ H ⟨rfl, hi, p⟩
  have q := hl i σ H hi p
  rcases Nat.lt_or_ge i kvs.length with lt | ge
  · refine .inr ⟨⟨q, lt⟩, Pv (i + 1), fun σ' H' p' => ⟨kvs.length - (i + 1), by omega, rfl, lt, p'⟩, ?_⟩
    rintro x H' ⟨rfl, k, e⟩
    exact hs i k x σ _ e p
  · have e : i = kvs.length := by omega
    subst e
    exact .inl ⟨⟨q, Nat.le_refl _⟩, hd σ H p⟩
theorem for_ents (Pv : Nat → L2.St → Hp → Prop) (h0 : Pv 0 σ H) (hl : ∀ i σ H, i ≤ kvs.length → Pv i σ H → H d = some (.frz o (.dK kvs)))
    (hs : ∀ i k v T σ H, kvs[i]? = some (k, v) → Pv i σ H → H T = none → g (.ref T) σ (upd H T (.tup [kV k, v])) fun σ2 H2 => tb { D with nx := Pv (i + 1), ct := Pv (i + 1), bk := D.nx } σ2 H2) (hd : ∀ σ H, Pv kvs.length σ H → D.nx σ H) :
    ∃ W : Nat → Nat → L2.St → Hp → Prop, (∃ m, W 0 m σ H) ∧ ∀ i m σ H, W i m σ H →
      ((Iti d o kvs).stop i H ∧ D.nx σ H) ∨ ((Iti d o kvs).go i H ∧ ∃ N : L2.St → Hp → Prop, (∀ σ' H', N σ' H' → ∃ m', m' < m ∧ W (i + 1) m' σ' H') ∧ ∀ x H', (Iti d o kvs).yld i H x H' → g x σ H' fun σ2 H2 => tb { D with nx := N, ct := N, bk := D.nx } σ2 H2) := by
  refine ⟨fun i m σ H => m = kvs.length - i ∧ i ≤ kvs.length ∧ Pv i σ H, ⟨kvs.length, by simp, Nat.zero_le _, h0⟩, ?_⟩
  rintro i m σ H ⟨rfl, hi, p⟩
  have q := hl i σ H hi p
  rcases Nat.lt_or_ge i kvs.length with lt | ge
  · refine .inr ⟨⟨q, lt⟩, Pv (i + 1), fun σ' H' p' => ⟨kvs.length - (i + 1), by omega, rfl, lt, p'⟩, ?_⟩
    rintro x H' ⟨T, k, v, e, rfl, nT, rfl⟩
    exact hs i k v T σ H e p nT
  · have e : i = kvs.length := by omega
    subst e
    exact .inl ⟨⟨q, Nat.le_refl _⟩, hd σ H p⟩
theorem for_keys (Pv : Nat → L2.St → Hp → Prop) (h0 : Pv 0 σ H) (hl : ∀ i σ H, i ≤ kvs.length → Pv i σ H → H d = some (.frz o (.dK kvs)))
    (hs : ∀ i k v σ H, kvs[i]? = some (k, v) → Pv i σ H → g (kV k) σ H fun σ2 H2 => tb { D with nx := Pv (i + 1), ct := Pv (i + 1), bk := D.nx } σ2 H2) (hd : ∀ σ H, Pv kvs.length σ H → D.nx σ H) :
    ∃ W : Nat → Nat → L2.St → Hp → Prop, (∃ m, W 0 m σ H) ∧ ∀ i m σ H, W i m σ H →
      ((Itk d o kvs).stop i H ∧ D.nx σ H) ∨ ((Itk d o kvs).go i H ∧ ∃ N : L2.St → Hp → Prop, (∀ σ' H', N σ' H' → ∃ m', m' < m ∧ W (i + 1) m' σ' H') ∧ ∀ x H', (Itk d o kvs).yld i H x H' → g x σ H' fun σ2 H2 => tb { D with nx := N, ct := N, bk := D.nx } σ2 H2) := by
  refine ⟨fun i m σ H => m = kvs.length - i ∧ i ≤ kvs.length ∧ Pv i σ H, ⟨kvs.length, by simp, Nat.zero_le _, h0⟩, ?_⟩
  rintro i m σ H ⟨rfl, hi, p⟩
  have q := hl i σ H hi p
  rcases Nat.lt_or_ge i kvs.length with lt | ge
  · refine .inr ⟨⟨q, lt⟩, Pv (i + 1), fun σ' H' p' => ⟨kvs.length - (i + 1), by omega, rfl, lt, p'⟩, ?_⟩
    rintro x H' ⟨rfl, k, v, e, rfl⟩
    exact hs i k v σ _ e p
  · have e : i = kvs.length := by omega
    subst e
    exact .inl ⟨⟨q, Nat.le_refl _⟩, hd σ H p⟩
end
/-- the outer for of two: over a locked dict's values -/
theorem lc2_vals {d : Addr} {o : Obj} {kvs : List (Key × V)} {g : TG} {vs : List Nat} {σ : L2.St} {H1 : Hp} {D : Addr} {Qd : Hp → Prop} {R : L2.St → Hp → (Hp → Prop) → Prop} (Pv : Nat → Hp → Prop) (h0 : Pv 0 (upd H1 D (.lst []))) (hl : ∀ i H, i ≤ kvs.length → Pv i H → H d = some (.frz o (.dK kvs)))
    (hs : ∀ i k v H, kvs[i]? = some (k, v) → Pv i H → g v (wipe σ vs) H fun σ2 H2 => wipe σ2 vs = wipe σ vs ∧ R σ2 H2 (Pv (i + 1))) (hd : ∀ H, Pv kvs.length H → Qd H) :
    ∃ W : Nat → Nat → Hp → Prop, (∃ m, W 0 m (upd H1 D (.lst []))) ∧ ∀ i m H, W i m H →
      ((Itd d o kvs).stop i H ∧ Qd H) ∨ ((Itd d o kvs).go i H ∧ ∃ Nx : Hp → Prop, (∀ H', Nx H' → ∃ m', m' < m ∧ W (i + 1) m' H') ∧ ∀ x H', (Itd d o kvs).yld i H x H' → g x (wipe σ vs) H' fun σ2 H2 => wipe σ2 vs = wipe σ vs ∧ R σ2 H2 Nx) := by
  refine ⟨fun i m H => m = kvs.length - i ∧ i ≤ kvs.length ∧ Pv i H, ⟨kvs.length, by simp, Nat.zero_le _, h0⟩, ?_⟩
  rintro i m H ⟨rfl, hi, p⟩
  have q := hl i H hi p
  rcases Nat.lt_or_ge i kvs.length with lt | ge
  · refine .inr ⟨⟨q, lt⟩, Pv (i + 1), fun H' p' => ⟨kvs.length - (i + 1), by omega, rfl, lt, p'⟩, ?_⟩
    rintro x H' ⟨rfl, k, e⟩
    exact hs i k x _ e p
  · have e : i = kvs.length := by omega
    subst e
    exact .inl ⟨⟨q, Nat.le_refl _⟩, hd H p⟩
/-- the inner for of two: over a tuple -/
theorem lc2_tup {K : PySem.W.Frag} {a : Addr} {xs : List V} {Nx : Hp → Prop} {H4 : Hp} {R : V → Hp → (Hp → Prop) → Prop} (Pv : Nat → Hp → Prop) (h0 : Pv 0 H4) (hl : ∀ i H, i ≤ xs.length → Pv i H → SqT K H a xs)
    (hs : ∀ i x H, xs[i]? = some x → Pv i H → R x H (Pv (i + 1))) (hd : ∀ H, Pv xs.length H → Nx H) :
    ∃ W : Nat → Nat → Hp → Prop, (∃ m, W 0 m H4) ∧ ∀ j k H, W j k H →
      ((Itt K a).stop j H ∧ Nx H) ∨ ((Itt K a).go j H ∧ ∃ Nx1 : Hp → Prop, (∀ H', Nx1 H' → ∃ k', k' < k ∧ W (j + 1) k' H') ∧ ∀ x H', (Itt K a).yld j H x H' → R x H' Nx1) := by
  refine ⟨fun i m H => m = xs.length - i ∧ i ≤ xs.length ∧ Pv i H, ⟨xs.length, by simp, Nat.zero_le _, h0⟩, ?_⟩
  rintro i m H ⟨rfl, hi, p⟩
  have q := hl i H hi p
  rcases Nat.lt_or_ge i xs.length with lt | ge
  · refine .inr ⟨⟨xs, xs[i], q, by simp [lt]⟩, Pv (i + 1), fun H' p' => ⟨xs.length - (i + 1), by omega, rfl, lt, p'⟩, fun x H' y => ?_⟩
    obtain ⟨e, y⟩ := y
    subst e
    exact hs i x _ (y xs q) p
  · have e : i = xs.length := by omega
    subst e
    exact .inl ⟨⟨xs, q, Nat.le_refl _⟩, hd H p⟩
/-- a, b, c = a tuple or a list -/
def gSeq (K : PySem.W.Frag) (n : Nat) (t : TGs) : TG := fun v σ H Q => gTup K n t v σ H Q ∨ gLst K n t v σ H Q
theorem pg_seq {X : Cx} {pos : Pos} {es : List Expr} {k : Nat} {t : TGs} {n : Nat} (hc : X.calm = true) (h : PGs X es t)
    (hn : (assignEach es X.env).length = n := by rfl) (hst : (assignEach es X.env).findIdx? (·.1) = none := by rfl) : PG X (.Tuple es k pos) (gSeq X.K n t) :=
  ⟨fun pins s σ H v u Q I r hw => hw.elim ((pg_tup hc h hn hst).run pins s σ H v u Q I r) ((pg_lst hc h hn hst).run pins s σ H v u Q I r)⟩
/-- a for over a list or a tuple that stays -/
theorem for_seq {K : PySem.W.Frag} {a : Addr} {xs : List V} {g : TG} {tb : TS} {D : Ends} {σ : L2.St} {H H0 : Hp} (hq : SqL K H0 a xs ∨ SqT K H0 a xs) (Pv : Nat → L2.St → Hp → Prop) (h0 : Pv 0 σ H)
    (hl : ∀ i σ H', Pv i σ H' → (SqL K H0 a xs → SqL K H' a xs) ∧ (SqT K H0 a xs → SqT K H' a xs))
    (hs : ∀ i x σ H, xs[i]? = some x → Pv i σ H → g x σ H fun σ2 H2 => tb { D with nx := Pv (i + 1), ct := Pv (i + 1), bk := D.nx } σ2 H2) (hd : ∀ σ H, Pv xs.length σ H → D.nx σ H) :
    ((∃ xs, SqL K H a xs) ∧ ∃ W : Nat → Nat → L2.St → Hp → Prop, (∃ m, W 0 m σ H) ∧ ∀ i m σ H, W i m σ H →
      ((Itl K a).stop i H ∧ D.nx σ H) ∨ ((Itl K a).go i H ∧ ∃ N : L2.St → Hp → Prop, (∀ σ' H', N σ' H' → ∃ m', m' < m ∧ W (i + 1) m' σ' H') ∧ ∀ x H', (Itl K a).yld i H x H' → g x σ H' fun σ2 H2 => tb { D with nx := N, ct := N, bk := D.nx } σ2 H2)) ∨
    ((∃ xs, SqT K H a xs) ∧ ∃ W : Nat → Nat → L2.St → Hp → Prop, (∃ m, W 0 m σ H) ∧ ∀ i m σ H, W i m σ H →
      ((Itt K a).stop i H ∧ D.nx σ H) ∨ ((Itt K a).go i H ∧ ∃ N : L2.St → Hp → Prop, (∀ σ' H', N σ' H' → ∃ m', m' < m ∧ W (i + 1) m' σ' H') ∧ ∀ x H', (Itt K a).yld i H x H' → g x σ H' fun σ2 H2 => tb { D with nx := N, ct := N, bk := D.nx } σ2 H2)) := by
  rcases hq with hq | hq
  · exact .inl ⟨⟨_, (hl 0 σ H h0).1 hq⟩, for_list Pv h0 (fun i σ H' _ p => (hl i σ H' p).1 hq) hs hd⟩
  · exact .inr ⟨⟨_, (hl 0 σ H h0).2 hq⟩, for_tup Pv h0 (fun i σ H' _ p => (hl i σ H' p).2 hq) hs hd⟩
/-- {k: v for .. in xs}, xs a tuple that stays -/
theorem dc_tup {K : PySem.W.Frag} {a : Addr} {xs : List V} {g : TG} {tt : TT} {tk tv : TE} {vs : List Nat} {σ : L2.St} {H1 : Hp} {D : Addr} {Qd : Hp → Prop} (Pv : Nat → Hp → Prop) (h0 : Pv 0 (upd H1 D (.dK []))) (hl : ∀ i H, i ≤ xs.length → Pv i H → SqT K H a xs)
    (hs : ∀ i x H, xs[i]? = some x → Pv i H → g x (wipe σ vs) H fun σ2 H2 => wipe σ2 vs = wipe σ vs ∧ tt σ2 H2 fun b H3 =>
      if b = true then tk σ2 H3 fun y H4 => tv σ2 H4 fun z H5 => ∃ kvs k, y = kV k ∧ H5 D = some (.dK kvs) ∧ kvs.length < sizeLine ∧ Pv (i + 1) (upd H5 D (.dK (putK kvs k z))) else Pv (i + 1) H3) (hd : ∀ H, Pv xs.length H → Qd H) :
    ∃ W : Nat → Nat → Hp → Prop, (∃ m, W 0 m (upd H1 D (.dK []))) ∧ ∀ i m H, W i m H →
      ((Itt K a).stop i H ∧ Qd H) ∨ ((Itt K a).go i H ∧ ∃ Nx : Hp → Prop, (∀ H', Nx H' → ∃ m', m' < m ∧ W (i + 1) m' H') ∧ ∀ x H', (Itt K a).yld i H x H' → g x (wipe σ vs) H' fun σ2 H2 => wipe σ2 vs = wipe σ vs ∧ tt σ2 H2 fun b H3 =>
        if b = true then tk σ2 H3 fun y H4 => tv σ2 H4 fun z H5 => ∃ kvs k, y = kV k ∧ H5 D = some (.dK kvs) ∧ kvs.length < sizeLine ∧ Nx (upd H5 D (.dK (putK kvs k z))) else Nx H3) := by
  refine ⟨fun i m H => m = xs.length - i ∧ i ≤ xs.length ∧ Pv i H, ⟨xs.length, by simp, Nat.zero_le _, h0⟩, ?_⟩
  rintro i m H ⟨rfl, hi, p⟩
  have q := hl i H hi p
  rcases Nat.lt_or_ge i xs.length with lt | ge
  · refine .inr ⟨⟨xs, xs[i], q, by simp [lt]⟩, Pv (i + 1), fun H' p' => ⟨xs.length - (i + 1), by omega, rfl, lt, p'⟩, fun x H' y => ?_⟩
    obtain ⟨e, y⟩ := y
    subst e
    exact hs i x _ (y xs q) p
  · have e : i = xs.length := by omega
    subst e
    exact .inl ⟨⟨xs, q, Nat.le_refl _⟩, hd H p⟩
/-- {k: v for .. in xs}, xs a list or a tuple that stays -/
theorem dc_seq {K : PySem.W.Frag} {a : Addr} {xs : List V} {g : TG} {tt : TT} {tk tv : TE} {vs : List Nat} {σ : L2.St} {H1 H0 : Hp} {Qd : Addr → Hp → Prop} (hq : SqL K H0 a xs ∨ SqT K H0 a xs) (h1 : Same H0 H1) (Pv : Addr → Nat → Hp → Prop) (h0 : ∀ D, H1 D = none → Pv D 0 (upd H1 D (.dK []))) (hl : ∀ D i H', Pv D i H' → Same H0 H')
    (hs : ∀ D, H1 D = none → ∀ i x H, xs[i]? = some x → Pv D i H → g x (wipe σ vs) H fun σ2 H2 => wipe σ2 vs = wipe σ vs ∧ tt σ2 H2 fun b H3 =>
      if b = true then tk σ2 H3 fun y H4 => tv σ2 H4 fun z H5 => ∃ kvs k, y = kV k ∧ H5 D = some (.dK kvs) ∧ kvs.length < sizeLine ∧ Pv D (i + 1) (upd H5 D (.dK (putK kvs k z))) else Pv D (i + 1) H3) (hd : ∀ D H, H1 D = none → Pv D xs.length H → Qd D H) :
    ((∃ xs, SqL K H1 a xs) ∧ ∀ D, H1 D = none → ∃ W : Nat → Nat → Hp → Prop, (∃ m, W 0 m (upd H1 D (.dK []))) ∧ ∀ i m H, W i m H →
      ((Itl K a).stop i H ∧ Qd D H) ∨ ((Itl K a).go i H ∧ ∃ Nx : Hp → Prop, (∀ H', Nx H' → ∃ m', m' < m ∧ W (i + 1) m' H') ∧ ∀ x H', (Itl K a).yld i H x H' → g x (wipe σ vs) H' fun σ2 H2 => wipe σ2 vs = wipe σ vs ∧ tt σ2 H2 fun b H3 =>
        if b = true then tk σ2 H3 fun y H4 => tv σ2 H4 fun z H5 => ∃ kvs k, y = kV k ∧ H5 D = some (.dK kvs) ∧ kvs.length < sizeLine ∧ Nx (upd H5 D (.dK (putK kvs k z))) else Nx H3)) ∨
    ((∃ xs, SqT K H1 a xs) ∧ ∀ D, H1 D = none → ∃ W : Nat → Nat → Hp → Prop, (∃ m, W 0 m (upd H1 D (.dK []))) ∧ ∀ i m H, W i m H →
      ((Itt K a).stop i H ∧ Qd D H) ∨ ((Itt K a).go i H ∧ ∃ Nx : Hp → Prop, (∀ H', Nx H' → ∃ m', m' < m ∧ W (i + 1) m' H') ∧ ∀ x H', (Itt K a).yld i H x H' → g x (wipe σ vs) H' fun σ2 H2 => wipe σ2 vs = wipe σ vs ∧ tt σ2 H2 fun b H3 =>
        if b = true then tk σ2 H3 fun y H4 => tv σ2 H4 fun z H5 => ∃ kvs k, y = kV k ∧ H5 D = some (.dK kvs) ∧ kvs.length < sizeLine ∧ Nx (upd H5 D (.dK (putK kvs k z))) else Nx H3)) := by
  rcases hq with hq | hq
  · exact .inl ⟨⟨_, h1.seq hq⟩, fun D hD => dc_list (Pv D) (h0 D hD) (fun i H' _ p => (hl D i H' p).seq hq) (hs D hD) fun H p => hd D H hD p⟩
  · exact .inr ⟨⟨_, sqT_on h1 hq⟩, fun D hD => dc_tup (Pv D) (h0 D hD) (fun i H' _ p => sqT_on (hl D i H' p) hq) (hs D hD) fun H p => hd D H hD p⟩
/-- o.m(k1 = a, k2 = b), the names turned round -/
def kSwap {α : Type} : List α → List α → List α
  | [u], [a, b] => [u, b, a]
  | _, _ => []
theorem kbinds_swap {K : PySem.W.Frag} {fd : FuncData} {p0 p1 p2 k1 k2 : Str} (h : ∀ (s : Shared) (u a b : Value), BindsTo s fd ⟨[u], [(k1, a), (k2, b)]⟩ [(p0, u), (p1, b), (p2, a)]) : KBinds K fd [p0, p1, p2] [k1, k2] kSwap kSwap where
  to := fun s us ws _ hl => match us, ws, hl with
    | [u], [a, b], _ => h s u a b
    | [], _, hl => by simp [kSwap] at hl
    | [_], [], hl => by simp [kSwap] at hl
    | [_], [_], hl => by simp [kSwap] at hl
    | [_], _ :: _ :: _ :: _, hl => by simp [kSwap] at hl
    | _ :: _ :: _, _, hl => by simp [kSwap] at hl
  rel := fun {vs us zs ws} r rz => match vs, us, zs, ws, r, rz with
    | [_], [_], [_, _], [_, _], .cons a .nil, .cons b (.cons c .nil) => .cons a (.cons c (.cons b .nil))
    | [], [], _, _, .nil, _ => by simp only [kSwap]; exact .nil
    | [_], [_], [], [], .cons _ .nil, .nil => .nil
    | [_], [_], [_], [_], .cons _ .nil, .cons _ .nil => .nil
    | [_], [_], _ :: _ :: _ :: _, _ :: _ :: _ :: _, .cons _ .nil, .cons _ (.cons _ (.cons _ _)) => .nil
    | _ :: _ :: _, _ :: _ :: _, _, _, .cons _ (.cons _ _), _ => by simp only [kSwap]; exact .nil
end My

/-! My own rule: sorted(xs), xs a list of tuples of three texts. -/
namespace My
open PySem PySem.Spec PyProof.Rows L2
abbrev RowB := Addr × (Str × Str × Str)
def rowE (e : Str × Str × Str) : PyData := .tuple [.str e.1, .str e.2.1, .str e.2.2]
noncomputable def rowLe : RowB → RowB → Bool := PySem.W.dataLe false fun b => rowE b.2
theorem alike_rowE (a b : Str × Str × Str) : PySem.W.alike (rowE a) (rowE b) = true := by
  unfold rowE
  simp [PySem.W.alike, PySem.W.alikeAll]
theorem depth_rowE (a : Str × Str × Str) : (rowE a).depth ≤ 1 := by
  unfold rowE
  simp [PyData.depth, PyData.depthAll]
theorem each_refs {K : PySem.W.Frag} {X : Cx} {pins : List (Addr × Obj)} {σ : L2.St} {H : Hp} {s : Shared} (I : Inv X pins σ H s) : ∀ {bs : List RowB} {us : List Value}, Vals (bs.map fun b => V.ref b.1) us → (∀ b ∈ bs, SqT X.K H b.1 [.str b.2.1, .str b.2.2.1, .str b.2.2.2]) →
    PySem.W.EachIs (fun v b => v = Value.ref b.1) us bs ∧ PySem.W.EachIs (fun v b => ∃ as, Reads s.heap v (rowE b.2) as) us bs
  | [], _, .nil, _ => ⟨.nil, .nil⟩
  | b :: bs, _, .cons r t, h => by
    have r : _ = Value.ref b.1 := r
    subst r
    obtain ⟨e1, e2⟩ := each_refs (K := K) I t fun c hc => h c (List.mem_cons_of_mem _ hc)
    exact ⟨.cons rfl e1, .cons (Dp.reads I _ (V.ref b.1) _ (.tup (h b List.mem_cons_self) (.cons (.str _) (.cons (.str _) (.cons (.str _) .nil)))) rfl) e2⟩
theorem vals_each : ∀ {us : List Value} {bs : List RowB}, PySem.W.EachIs (fun v b => v = Value.ref b.1) us bs → Vals (bs.map fun b => V.ref b.1) us
  | _, _, .nil => .nil
  | _, _, .cons h t => .cons h (vals_each t)
section
variable {X : Cx}
def rSortRows (K : PySem.W.Frag) : List V → Hp → VK → Prop := fun vs H Q => ∃ (a : Addr) (bs : List RowB), vs = [V.ref a] ∧ SqL K H a (bs.map fun b => V.ref b.1) ∧ (∀ b ∈ bs, SqT K H b.1 [.str b.2.1, .str b.2.2.1, .str b.2.2.2]) ∧
  ∀ p, H p = none → Q (.ref p) (upd H p (.lst ((bs.mergeSort rowLe).map fun b => V.ref b.1)))
theorem cr_sortRows (hu : X.A.units + 64 < cLine) : CallR X (.builtin "sorted") (rSortRows X.K) := by
  intro pins s σ H vs us Q I r h
  obtain ⟨a, bs, rfl, hs, hb, q⟩ := h
  obtain ⟨its, rv, hl, hz⟩ := I.list hs
  rw [Vals.ref1 r]
  obtain ⟨e1, e2⟩ := each_refs (K := X.K) I rv hb
  have hlen : bs.length ≤ sizeLine := by rw [List.length_map] at hz; exact hz
  refine PySem.W.sorted_data (enc := fun b : RowB => rowE b.2) hl.isList e1 e2 (PySem.W.AllAlike.of fun b b' => alike_rowE b.2 b'.2) (PySem.W.Sortable.tuples fun b => ⟨_, _, rfl⟩) hlen (fun b _ => by have := depth_rowE b.2; omega) fun out ho e3 => ?_
  obtain ⟨ep, he'⟩ := PyProof.Rows.sortedAll_at s.heap its out.toArray
  have hl2 : ((bs.mergeSort rowLe).map fun b : RowB => V.ref b.1).length ≤ sizeLine := by rw [List.length_map, (List.mergeSort_perm bs rowLe).length_eq]; exact hlen
  exact ⟨.ref _, upd H (s.heap.objs.size + 1) (.lst ((bs.mergeSort rowLe).map fun b => V.ref b.1)), I.laid (t' := s.toks) (fun _ _ => PyProof.Rows.sortedAll_old) (Nat.le_succ _) ⟨hl2, out, ep, vals_each e3, he'⟩, rfl, q _ (I.hok.fresh (Nat.le_succ _))⟩
end
end My

/-! My own rule: for i, x in enumerate(xs, start=k), xs a list, k a whole number that is written there. -/
namespace My
open PySem PySem.Spec PyProof.Rows L2
open PySem.Calls
section
variable {M : Model} {A : Around} {E : Value → Shared → Prop} {s : Shared} {env : Env}
theorem callWith_typeKw {pos : Pos} {T : String} {first : List Value} {args : List (Bool × Sem Value)} {keywords : List (Option Str × Sem Value)} {Q : Value → Shared → Prop}
    (hplain : args.any (·.1) = false) (hkw : keywords.any (·.1.isNone) = false)
    (h : wpAny M A (evalArgs (.type T) true args keywords) (fun a s₁ => wpAny M A (call (.type T) (first ++ a.pos) a.kw) Q E s₁) E s) :
    wpAny M A (callWith pos (.type T) first args keywords) Q E s := by
  unfold callWith
  refine wpAny_bind (wpAny_holding (wpAny_mono h (fun a s₁ h₁ => wpAny_bind (wpAny_standAt ?_)) fun _ _ x => x))
  simp only [hplain, hkw, Bool.or_false]
  refine wpAny_bind (wpAny_pure ?_)
  exact wpAny_bind (wpAny_mono h₁ (fun r s₂ hr => wpAny_bind (wpAny_holding (wpAny_point (wpAny_pure hr)))) fun _ _ x => x)
theorem callWith_typeKw1 {pos : Pos} {T : String} {e : Expr} {rest : List Expr} {kws : List Keyword} {Q : Value → Shared → Prop}
    (h : wpAny M A (spliced (backTo pos (starEach (e :: rest) env))) (fun vs s₁ => wpAny M A (evalAll ((backToKw pos (keywordEach kws env)).map (·.2)))
      (fun kvs s₂ => wpAny M A (call (.type T) vs (((backToKw pos (keywordEach kws env)).filterMap (·.1)).zip kvs)) Q E s₂) E s₁) E s)
    (he : backTo pos (starEach (e :: rest) env) = (false, eval e env) :: backTo pos (starEach rest env) := by rfl)
    (hplain : (backTo pos (starEach (e :: rest) env)).any (·.1) = false := by rfl)
    (hall : (backToKw pos (keywordEach kws env)).all (·.1.isSome) = true := by rfl)
    (hkw : (backToKw pos (keywordEach kws env)).any (·.1.isNone) = false := by rfl) :
    wpAny M A (callWith pos (.type T) [] (backTo pos (starEach (e :: rest) env)) (backToKw pos (keywordEach kws env))) Q E s := by
  refine callWith_typeKw hplain hkw ?_
  rw [he] at h ⊢
  exact evalArgs_kwB hall h
end
/-- a list's items from its first, each with its number, the first one's being k -/
def ItS (K : PySem.W.Frag) (a : Addr) (k : Int) : It where
  go i H := ∃ ys v, SqL K H a ys ∧ ys[i]? = some v
  yld i H v H' := ∃ (pr : Addr) (z : V), v = V.ref pr ∧ H pr = none ∧ H' = upd H pr (HO.tup [V.int (k + (i : Int)), z]) ∧ ∀ ys, SqL K H a ys → ys[i]? = some z
  stop i H := ∃ ys : List V, SqL K H a ys ∧ ys.length ≤ i
/-- the counter at c over the list's iterator at j, at its i-th turn -/
def CntAt (c j a : Addr) (k : Int) (i : Nat) (h : Heap) : Prop := c ≠ j ∧ h.IsListIter j a i ∧ ∃ last, IsEnum h c j (k + (i : Int)) last
theorem two_cells {α : Type} {p : α → Prop} {x y : α} (hx : p x) (hy : p y) : ∀ b ∈ [x, y], p b := by
  simp only [List.mem_cons, List.not_mem_nil, or_false]
  rintro b (rfl | rfl)
  · exact hx
  · exact hy
theorem turn_count {P : Program} {w : World} {K : PySem.W.Frag} {es : List Expr} {n : Nat} {ps : Pos} (a c j : Addr) (k : Int) :
    Turn P w K (.Tuple es n ps) (ItS K a k) [c, j] c (CntAt c j a k) where
  mem := List.mem_cons_self
  obj i h st := two_cells (p := fun b => ∃ o, h.get? b = some o ∧ ∀ v, o.data ≠ .cell v) ⟨_, st.2.2.choose_spec, fun _ q => nomatch q⟩ (by
    obtain ⟨o, h1, _, h2⟩ := st.2.1
    exact ⟨o, h1, fun _ q => by rw [h2] at q; nomatch q⟩)
  keep i h h' st f := ⟨st.1, st.2.1.at fun o => f j (by simp) o, st.2.2.imp fun l q => f c (by simp) _ q⟩
  item := by
    rintro X rfl rfl rfl calm i pins s σ H E I low ⟨cj, hj, l, hc⟩ ⟨ys, v, hys, hv⟩
    obtain ⟨arr, rel, lst, _⟩ := I.list hys
    obtain ⟨u, hu, ruv⟩ := rel.get hv
    have aj : a ≠ j := fun z => by
      obtain ⟨o1, g1, k1, _⟩ := hj
      obtain ⟨o2, g2, k2, _⟩ := lst.isList
      rw [z, g1] at g2
      rw [Option.some.inj g2, k2] at k1
      revert k1
      decide
    have lc := Heap.lt_size hc
    have lj : j < s.heap.objs.size := let ⟨_, q, _⟩ := hj; Heap.lt_size q
    have ca : c ≠ a := fun z => by
      obtain ⟨o2, g2, k2, _⟩ := lst.isList
      have g1 := (show s.heap.get? c = _ from hc)
      rw [z, g2] at g1
      rw [Option.some.inj g1] at k2
      exact absurd (Value.type.inj k2) (by decide)
    have la : c ∉ [j, a] := by simp [cj, ca]
    refine wpAny_pyNext_enum_itemC (Draws.list (A := X.A.in1) (I.ok.hd calm) j a aj arr.toArray) hc ⟨hj, lst.isList⟩ ?_ cj la ?_
    · have := (List.getElem?_eq_some_iff.mp hu).1
      simpa using this
    intro x h1 tk hx out st1 new sz oth
    obtain rfl : u = x := by
      have hx : arr.toArray[i]? = some x := hx
      rw [List.getElem?_toArray, hu] at hx
      exact Option.some.inj hx
    refine ⟨_, rfl, wpAny_letOwnedTupleGo_enum (s := { s with heap := h1, toks := tk + 1 }) out fun h2 cnt same => ?_⟩
    have got : h2.get? s.heap.objs.size = some { cls := .type "tuple", data := .seq #[.int (k + (i : Int)) tk, u] } := (same.2 _ (Nat.ne_of_gt lc)).trans new
    have stays : ∀ b o, b ∉ [c, j] → s.heap.get? b = some o → h2.get? b = some o := fun b o hb q => by
      simp only [List.mem_cons, List.not_mem_nil, or_false, not_or] at hb
      exact (same.2 b hb.1).trans (oth b o hb.1 hb.2 q)
    have mine : ObjOk X.prog X.w (upd H s.heap.objs.size (HO.tup [V.int (k + (i : Int)), v])) h2 s.heap.objs.size (HO.tup [V.int (k + (i : Int)), v]) := ⟨by show 2 ≤ sizeLine; decide, _, .cons ⟨_, rfl⟩ (.cons ruv .nil), ⟨_, got, rfl, _, rfl⟩⟩
    have I2 := I.turnedNew (t' := tk + 1) stays low (Nat.le_refl _) mine
    exact ⟨V.ref s.heap.objs.size, _, I2, rfl, ⟨_, v, rfl, I.hok.fresh (Nat.le_refl _), rfl, fun zs hzs => by rw [I.list_inj hzs hys]; exact hv⟩, ⟨cj, st1.1.at fun o q => (same.2 j (Ne.symm cj)).trans q, u, by rw [show k + ((i + 1 : Nat) : Int) = k + (i : Int) + 1 by omega]; exact cnt⟩, two_cells (p := fun b => (upd H s.heap.objs.size _) b = none) (by rw [upd_ne (Nat.ne_of_lt lc)]; exact (low c (by simp)).1) (by rw [upd_ne (Nat.ne_of_lt lj)]; exact (low j (by simp)).1)⟩
  done := by
    rintro X rfl rfl rfl calm i pins s σ H E I low ⟨cj, hj, l, hc⟩ ⟨ys, hys, hle⟩
    obtain ⟨arr, rel, lst, _⟩ := I.list hys
    have aj : a ≠ j := fun z => by
      obtain ⟨o1, g1, k1, _⟩ := hj
      obtain ⟨o2, g2, k2, _⟩ := lst.isList
      rw [z, g1] at g2
      rw [Option.some.inj g2, k2] at k1
      revert k1
      decide
    have over : arr.toArray[i]? = none := by
      rw [List.getElem?_toArray, List.getElem?_eq_none_iff, ← rel.length]
      exact hle
    obtain ⟨f0, f1, f2, f3, f4, f5⟩ := low j (by simp)
    have D : Draws X.prog X.w X.A.in1 j [j, a] i (fun _ _ => True) (fun m h => m = i ∧ h.IsListIter j a m ∧ h.IsList a arr.toArray) :=
      { live := fun m h st => let ⟨o, g, _⟩ := st.2.1; ⟨o, g⟩
        frame := fun m h h' st f => ⟨st.1, st.2.1.at fun o => f j (by simp) o, st.2.2.at fun o => f a (by simp) o⟩
        item := fun m _ _ _ hm st _ => absurd st.1 (Nat.ne_of_lt hm)
        done := fun s' Q' E' st hE => wpAny_nextOf_list_end (I.ok.hd calm) st.2.1 st.2.2 (by rw [st.1]; exact over) hE }
    exact wpAny_pyNext_enum_endD D hc ⟨rfl, hj, lst.isList⟩ fun h' eb => ⟨rfl, I.turned (t' := s.toks) eb f0 f1 f3 f4 f5⟩
  self A i s Q E st q := wpAny_pyIter_enum st.2.2.choose_spec q
def iEnumS (K : PySem.W.Frag) (k : Int) (ta : TA) : TI := fun σ H R => ta σ H fun vs H1 => ∃ a xs, vs = [.ref a] ∧ SqL K H1 a xs ∧ R (ItS K a k) H1
theorem pi_enumS {X : Cx} {e : Expr} {ta : TA} {p pos tpos kp cp : Pos} {elts : List Expr} {kk : Nat} {k : Int} {c : Nat} (hg : Gl X "enumerate") (hm : X.mg "enumerate" = none) (ha : PA X [e] ta) (hk0 : -(2 ^ 63) ≤ k) (hk1 : k < 2 ^ 63) (he : backTo pos (starEach [e] X.env) = (false, eval e X.env) :: backTo pos (starEach [] X.env) := by rfl) (hpl : (backTo pos (starEach [e] X.env)).any (·.1) = false := by rfl) :
    PI X (.Tuple elts kk tpos) (.Call (.Name "enumerate" p) [e] [⟨some "start", .Constant (.int k) c cp, kp⟩] pos) (iEnumS X.K k ta) := by
  refine ⟨fun pins s σ H R I h => ?_⟩
  refine wpAny_Call_Name_kw (ld_blt I hg hm boot_enumerate ?_)
  refine callWith_typeKw1 (thn (ha.run pos pins s σ H _ I h) fun us s1 ⟨vs, H1, I1, r1, q1⟩ => ?_) he hpl
  obtain ⟨a, xs, ex, hq, q⟩ := q1
  subst ex
  cases r1 with
  | cons r rr =>
    cases rr
    cases r
    obtain ⟨arr, rel, lst, _⟩ := I1.list hq
    refine kwAll_cons (thn ((pe_int (X := X)).run pins s1 σ H1 (fun x H' => x = V.int k ∧ H' = H1) I1 ⟨rfl, rfl⟩) fun u s2 ⟨y, H2, I2, ry, ey, eh⟩ => ?_)
    subst ey eh
    obtain ⟨t, rfl⟩ := ry
    refine kwAll_nil ?_
    show wpAny _ _ (call (.type "enumerate") [.ref a] [(Str.ofString "start", .int k t)]) _ _ _
    obtain ⟨arr2, rel2, lst2, _⟩ := I2.list hq
    refine enum_begins_start (begins_list a arr2.toArray) lst2.isList hk0 hk1 fun h' cnt at0 sz old => wpAny_pyIter_enum cnt ?_
    refine ⟨s2.heap.objs.size + 1, [s2.heap.objs.size + 1, s2.heap.objs.size], _, _, H2, rfl, I2.kept (t' := s2.toks) old, turn_count a (s2.heap.objs.size + 1) s2.heap.objs.size k, ⟨Nat.succ_ne_self _, ⟨_, at0, rfl, rfl⟩, _, by rw [show k + ((0 : Nat) : Int) = k from Int.add_zero k]; exact cnt⟩, ?_, q⟩
    exact two_cells (p := fun b => FpOk X pins H2 b) (I2.fpOk (Nat.le_succ _) (I2.hok.fresh (Nat.le_succ _))) (I2.fpOk (Nat.le_refl _) (I2.hok.fresh (Nat.le_refl _)))
end My

/-! My own rule: o == a text, o an instance whose class has its own __eq__. -/
namespace My
open PySem PySem.Spec PyProof.Rows L2
section
variable {X : Cx} {k : Nat} {C f : Addr} {fd : FuncData} {ps : List Str} {sp : Sp} {CX : CXT} {E : XK}
def rOS (C : Addr) (sp : Sp) (E : XK) : R2 := fun x y H Q => ∃ a dx fs z, x = .ref a ∧ y = .str z ∧ H a = some (.ins C dx fs) ∧ sp [.ref a, .str z] H Q E
theorem cmp_ownS (O : OthC X.K C f) (hn : PySem.W.subIn X.K (.type "str") (.ref C) = some false) (F : FnOk X.prog X.w X.K X.mg X.base CX k f fd ps sp) (hr : Room k X.A) (hb : Binds X.K fd ps []) (hx : Passes CX X E) : OpR X (compareOp .Eq) (rOS C sp E) := by
  intro pins s σ H x y v u Q I rx ry h
  obtain ⟨a, dx, fs, z, rfl, rfl, ea, q⟩ := h
  obtain rfl : v = Value.ref a := rx
  obtain ⟨t, rfl⟩ := ry
  obtain ⟨mA, J, _⟩ := ins_get I.hok ea
  obtain ⟨od, J, _⟩ := J.look
  obtain ⟨m, hF⟩ := I.fr
  show wpAny (model X.prog X.w) X.A (richCompare .Eq (.ref a) (.str z t)) (EP X pins σ Q) X.xe s
  refine PySem.W.cmp_K (op := .Eq) (tb := .type "str") hr.units0 hF I.ok.mod.kin J (PySem.W.Looks.of_pure rfl) ?_ O.eq O.fn ?_
  · simp [PySem.W.notFirst, hn]
  · exact wpAny_mono (run_own (vs := [V.ref a, V.str z]) F hr hb hx I (.cons rfl (.cons ⟨t, rfl⟩ .nil)) q) (fun _ _ w => back_of w) fun _ _ e => e
end
end My

set_option maxHeartbeats 2000000
/-! My own rules: a def that raises nothing called within an except suite (k not in o there); xs.append(v) within a try. -/
namespace My
open PySem PySem.Spec PyProof.Rows L2
/-- what a def that raises nothing promises, whatever is being handled -/
structure FnC (P : Program) (w : World) (K : PySem.W.Frag) (mg : Str → Option Value) (base : Heap) (k : Nat) (f : Addr) (fd : FuncData) (ps : List Str) (sp : Sp) : Prop where
  lens : ∀ vs H Q E, sp vs H Q E → vs.length = ps.length
  runs : ∀ (A : Around) (outer : List Env) (s : Shared) (H : Hp) (args : Args) (us : List Value) (vs : List V) (Q : VK), L2H.RoomH k A → Env0 P w K mg base A outer s H → BindsTo s fd args (ps.zip us) → Vals vs us → sp vs H Q E0 → codeAny (model P w) A (.call (.ref f) args) (CR CX0 outer P w H s Q E0) s
/-- the context of its body -/
def cxC (P : Program) (w : World) (K : PySem.W.Frag) (mg : Str → Option Value) (base : Heap) (N : List Str) (qual : Str) (scope : Scope) (f : Addr) (cd : Value) (A : Around) (outer : List Env) (s : Shared) (H : Hp) : Cx :=
  { cxOf CX0 P w K mg base N qual scope f cd A outer s H E0 with calm := false, xe := fun _ _ => False }
theorem inv_cold {P : Program} {w : World} {K : PySem.W.Frag} {mg : Str → Option Value} {base : Heap} {N ps : List Str} {qual : Str} {scope : Scope} {f : Addr} {cd : Value} {A : Around} {outer : List Env} {s s1 : Shared} {H : Hp} {us : List Value} {vs : List V}
    (S : FnScope N ps scope) (e : Env0 P w K mg base A outer s H) (hl : vs.length = ps.length) (r : Vals vs us)
    (x : InCallC s s.heap.objs.size (bindL (envOfC qual scope s.heap.objs.size f cd).kindOf (ps.zip us) fun _ => none) (cellsFrom (s.heap.objs.size + 1) scope.names []) (bindC (envOfC qual scope s.heap.objs.size f cd).kindOf (ps.zip us) fun _ => none) s1) :
    Inv (cxC P w K mg base N qual scope f cd A outer s H) [] (L2.start N vs) H s1 := by
  have I := inv_start (CX := CX0) (E := E0) (f := f) (cd := cd) (A := { A with handled := none }) S rfl ⟨e.frames, e.mod, e.bs, e.bsz, e.funs, e.frf, e.hok, e.bare⟩ hl r x
  have o := I.ok
  exact ⟨⟨o.mod, o.kind, o.glob, o.blt, o.above, o.inj, o.has, o.cab, (fun z => nomatch z), o.frames, o.stk, o.exf, o.bs, o.bsz, o.noex, o.exfs, o.funs, o.frf⟩, I.os, I.bare, I.base, I.loc, I.cell, I.free, I.freeC, I.pin, I.hok, I.len⟩
theorem okC {P : Program} {w : World} {K : PySem.W.Frag} {mg : Str → Option Value} {base : Heap} {x qual : Str} {st : Stmt} {f : Addr} {fd : FuncData} {N ps : List Str} {k : Nat} {sp : Sp} (F : Fun K x qual st f fd) (S : FnScope N ps (defScope st)) (len : ∀ vs H Q E, sp vs H Q E → vs.length = ps.length)
    (hbody : ∀ (cdv : Value) (A : Around) (outer : List Env) (s : Shared) (H : Hp) (vs : List V) (Q : VK), L2H.RoomH k (A.deeper (envOfC qual (defScope st) s.heap.objs.size f cdv)) → sp vs H Q E0 →
      ∃ t, PSs (cxC P w K mg base N qual (defScope st) f cdv A outer s H) (defBody st) t ∧ t { nx := fun _ H' => Q .non H', rt := Q } (L2.start N vs) H) : FnC P w K mg base (k + 1) f fd ps sp := by
  obtain ⟨oc, od, kV, doc, pm, an, cdv, ct, osl, rfl, lk, hcd⟩ := F.ex
  refine ⟨len, fun A outer s H args us vs Q room e0 hb r hs => ?_⟩
  have inK : K.In s.heap := e0.mod.kin.keeps fun b o z => (e0.bs b o z).1
  have noL : s.heap.NoLimit := e0.mod.nolimit.keeps fun b o z => (e0.bs b o z).1
  refine codeAny_call_function room.depth (inK _ _ lk) rfl S.co S.gen rfl (PySem.W.codeRec_of inK hcd) (hb _ _ _ _ ?_)
  refine wpAny_newFunctionEnv_cells S.kind (fun ⟨n, v⟩ hy => ?_) fun env he s1 x => ?_
  · rcases S.par n (List.of_mem_zip hy).1 with q | q
    · exact .inl q
    · exact .inr ⟨q, PySem.W.cellsFrom_some _ _ _ (.inl q)⟩
  subst he
  refine ⟨noL.keeps x.toInCall.keep, codeAny_func ?_⟩
  obtain ⟨t, ht, hq⟩ := hbody cdv A outer s H vs Q (room.deeper _) hs
  have I := inv_cold (f := f) (cd := cdv) (A := A) S e0 (len _ _ _ _ hs) r x
  refine wpAny_mono (ht.run [] s1 (L2.start N vs) H _ I hq) (fun fl s' h2 => ?_) fun _ _ z => z.elim
  cases fl with
  | ret u =>
    obtain ⟨v, σ', H', J, rv, q⟩ := h2
    exact ⟨v, H', J.os, J.bare, J.base, J.hok, rv, q⟩
  | next =>
    obtain ⟨σ', H', J, q⟩ := h2
    exact ⟨.non, H', J.os, J.bare, J.base, J.hok, rfl, q⟩
  | brk =>
    obtain ⟨_, _, _, q⟩ := h2
    exact q.elim
  | cont =>
    obtain ⟨_, _, _, q⟩ := h2
    exact q.elim
section
variable {X : Cx} {k : Nat} {C f : Addr} {fd : FuncData} {ps : List Str} {sp : Sp}
theorem run_cold {pins : List (Addr × Obj)} {s : Shared} {σ : L2.St} {H : Hp} {Q : VK} {us : List Value} {vs : List V} (F : FnC X.prog X.w X.K X.mg X.base k f fd ps sp) (hr : L2H.RoomH k X.A) (hb : Binds X.K fd ps [])
    (I : Inv X pins σ H s) (r : Vals vs us) (h : sp vs H Q E0) : wpAny (model X.prog X.w) X.A (call (.ref f) us) (EP X pins σ Q) X.xe s := by
  have b := hb s us I.kIn (by rw [List.append_nil, ← F.lens _ _ _ _ h]; exact r.length.symm)
  rw [List.append_nil] at b
  refine wpAny_call (codeAny_mono (F.runs X.A X.stack s H ⟨us, []⟩ us vs _ hr I.env0 b r h) fun r s' hq => ?_)
  cases r with
  | error e => exact False.elim hq
  | ok fl =>
    cases fl with
    | ret w => exact I.after hq
    | next => exact False.elim hq
    | brk => exact False.elim hq
    | cont => exact False.elim hq
theorem op_notInC (D : DunC X.K C "__contains__" f) (F : FnC X.prog X.w X.K X.mg X.base k f fd ps sp) (hr : L2H.RoomH k X.A) (hb : Binds X.K fd ps []) : OpR X (compareOp .NotIn) (rInI C sp E0 true) := by
  intro pins s σ H x y v u Q I rx ry h
  obtain ⟨p, dx, fs, rfl, ea, q⟩ := h
  obtain rfl : u = Value.ref p := ry
  obtain ⟨mA, J, _⟩ := ins_get I.hok ea
  obtain ⟨od, J, _⟩ := J.look
  obtain ⟨m, hF⟩ := I.fr
  refine PySem.W.notIn_K hF I.ok.mod.kin J D.at_ D.fn (wpAny_mono (run_cold (vs := [V.ref p, x]) F hr hb I (.cons rfl (.cons rx .nil)) q) (fun r s' hr' => ?_) fun _ _ e => e)
  obtain ⟨z, H2, I2, rz, b, ez, q2⟩ := hr'
  subst ez
  obtain rfl : r = Value.bool b := rz
  exact wpAny_truthy_bool ⟨.bl (!b), H2, I2, rfl, q2⟩
end
theorem huH {A : Around} {k : Nat} (hr : L2H.RoomH k A) : A.units + 1 < cLine := by have := hr.un; omega
theorem roomC {k : Nat} {A : Around} (r : Room k A) (h : Option Value) : L2H.RoomH k (A.mark h) := ⟨r.dp, r.un⟩
/-- xs.append(v) within a try: what it asks names the outer context's kinds -/
theorem pe_bmT {X : Cx} {pn : List (Addr × Obj)} {xe : Value → Shared → Prop} {T : String} {name : Str} {o e : Expr} {es : List Expr} {to : TE} {t : TA} {r : V → List V → Hp → VK → Prop} {apos cpos : Pos} (h : PE (X.tr pn xe) (.Call (.Attribute o name apos) (e :: es) [] cpos) (tBM (X.tr pn xe).K T r to t)) :
    PE (X.tr pn xe) (.Call (.Attribute o name apos) (e :: es) [] cpos) (tBM X.K T r to t) := h
/-- is not, of truth values -/
def rNotB : R2 := fun x y H Q => ∃ a b, x = V.bl a ∧ y = V.bl b ∧ Q (.bl (a != b)) H
theorem op_notB {X : Cx} : OpR X (compareOp .IsNot) rNotB := by
  intro pins s σ H x y v u Q I rx ry h
  obtain ⟨a, b, rfl, rfl, q⟩ := h
  obtain rfl : v = Value.bool a := rx
  obtain rfl : u = Value.bool b := ry
  exact wpAny_isNot_plain rfl (fin_bl I q (by cases a <;> cases b <;> rfl))
end My

/-! My own rule: lists != whose items are the same objects or equal data, one by one. -/
namespace My
open PySem PySem.Spec PyProof.Rows L2
/-- the same object, or equal data -/
inductive EqV (K : PySem.W.Frag) (H : Hp) : V → V → Prop
  | same (a : Addr) : EqV K H (.ref a) (.ref a)
  | data {x y : V} {d e : PyData} : Dp K H x d → Dp K H y e → SeqAt.shaped d = true → SeqAt.shaped e = true → PyData.eqv d e = true → EqV K H x y
def rNeMix (K : PySem.W.Frag) : R2 := fun x y H Q => ∃ a b xs ys, x = V.ref a ∧ y = V.ref b ∧ SqL K H a xs ∧ SqL K H b ys ∧ Paired (EqV K H) xs ys ∧ Q (.bl false) H
theorem op_neMix {X : Cx} (hu : X.A.units + 128 < cLine) : OpR X (compareOp .NotEq) (rNeMix X.K) := by
  intro pins s σ H x y v u Q I rx ry h
  obtain ⟨a, b, xs, ys, rfl, rfl, ha, hb, hp, q⟩ := h
  obtain rfl : v = Value.ref a := rx
  obtain rfl : u = Value.ref b := ry
  obtain ⟨as, ra, pa, za⟩ := I.list ha
  obtain ⟨bs, rb, pb, zb⟩ := I.list hb
  have la : as.length = xs.length := ra.length.symm
  have lb : bs.length = ys.length := rb.length.symm
  have lab : xs.length = ys.length := hp.length
  show wpAny (model X.prog X.w) X.A (richCompare .NotEq (.ref a) (.ref b)) (EP X pins σ Q) X.xe s
  refine SeqAt.RcNeAt.lists (e := fun _ => true) pa.isList pb.isList (by simp; omega) (by omega) (fun j h1 h2 => ?_) X.prog X.w _ _ (fin_bl I q (by simp))
  have i1 : j < xs.length := by simp at h1; omega
  have i2 : j < ys.length := by omega
  obtain ⟨u1, g1, r1⟩ := ra.get (List.getElem?_eq_getElem i1)
  obtain ⟨u2, g2, r2⟩ := rb.get (List.getElem?_eq_getElem i2)
  have e1 : as.toArray[j] = u1 := by
    have := (List.getElem?_eq_some_iff.mp g1).2
    simpa using this
  have e2 : bs.toArray[j] = u2 := by
    have := (List.getElem?_eq_some_iff.mp g2).2
    simpa using this
  rw [e1, e2]
  obtain ⟨y2, hy2, he⟩ := L2.paired_get hp (List.getElem?_eq_getElem i1)
  rw [List.getElem?_eq_getElem i2] at hy2
  obtain rfl := Option.some.inj hy2
  generalize hxj : xs[j] = xv at he r1
  generalize hyj : ys[j] = yv at he r2
  cases he with
  | same c =>
    obtain rfl : u1 = Value.ref c := r1
    obtain rfl : u2 = Value.ref c := r2
    exact SeqAt.EqAt.same _
  | @data _ _ d e hd hd2 sd se hq =>
    obtain ⟨_, R1⟩ := Dp.reads I d xv u1 hd r1
    obtain ⟨_, R2⟩ := Dp.reads I e yv u2 hd2 r2
    have := SeqAt.eqAt_reads d e X.A.in1 s u1 u2 _ _ R1 R2 (SeqAt.canLay_of_shaped sd) (SeqAt.canLay_of_shaped se) (SeqAt.room_of_shaped sd (by show X.A.units + 1 + 64 < cLine; omega))
    rw [hq] at this
    exact this
end My

/-! My own rules: == of dicts of instances with an own ==; != of an instance and an integer. -/
namespace My
open PySem PySem.Spec PyProof.Rows L2
section
open PySem.Calls PyProof.V
variable {prog : Program} {w : World} {K : Type} [DecidableEq K] {knd : KeyKind prog w K} {A : Around} {E : Value → Shared → Prop} {s : Shared}
theorem samePairsB {nm : String} {a b : Addr} {ka kb : List (K × Value)} {oa ob : Obj} {r : Bool} {Q : Bool → Shared → Prop} (t : Nat → Bool) (I : Shared → Prop) (ha : (a == sysModules) = false) (hb : (b == sysModules) = false)
    (da : s.heap.DictOf knd a ka) (db : s.heap.DictOf knd b kb) (keep : ∀ s', I s' → s'.heap.get? a = some oa ∧ s'.heap.get? b = some ob)
    (hit : ∀ i k v, ka[i]? = some (k, v) → (valueAt kb k = none ∧ t i = false) ∨ ∃ y, valueAt kb k = some y ∧ ∀ s', I s' → wpAny (model prog w) A (eqBool v y) (fun e s2 => e = t i ∧ I s2) E s')
    (hr : r = true ↔ ka.length = kb.length ∧ ∀ i, i < ka.length → t i = true) (h : ∀ s', I s' → Q r s') (h0 : I s) :
    wpAny (model prog w) A (Builtin.Dict.samePairs nm a b) Q E s := by
  obtain ⟨oa', es, ep, hoa, hxa, hda, hka, hpa, _⟩ := da
  obtain ⟨ob', es', ep', hob, hxb, hdb, hkb, hpb, _⟩ := db
  obtain ⟨ka0, kb0⟩ := keep s h0
  rw [hoa] at ka0
  rw [hob] at kb0
  obtain rfl := Option.some.inj ka0
  obtain rfl := Option.some.inj kb0
  have hla : ka.length = es.size := by rw [← hpa.length]; exact Array.length_toList
  have hlb : kb.length = es'.size := by rw [← hpb.length]; exact Array.length_toList
  have hfind : ∀ k, findBy knd.is es' k = valueAt kb k := fun k => by
    rw [← hpb.find k]
    clear hlb hpb hkb hdb hob
    obtain ⟨l⟩ := es'
    simp [findBy]
  unfold Builtin.Dict.samePairs Builtin.Dict.showsAll
  rw [if_neg (show ¬ (a == sysModules) = true by rw [ha]; exact Bool.false_ne_true), if_neg (show ¬ (b == sysModules) = true by rw [hb]; exact Bool.false_ne_true)]
  refine wpAny_bind (wpAny_pure (wpAny_bind (wpAny_pure ?_)))
  refine wpAny_bind (wpAny_dictEntries hoa hda ?_)
  dsimp only
  refine wpAny_bind (wpAny_dictEntries hob hdb ?_)
  by_cases hsz : es.size = es'.size
  case neg =>
    rw [if_pos (by simpa using hsz)]
    have hrf : r = false := by
      rw [← Bool.not_eq_true, hr]
      rintro ⟨z, _⟩
      exact hsz (by rw [← hla, ← hlb, z])
    have := h s h0
    rw [hrf] at this
    exact wpAny_bind (wpAny_rule (wpAny_pure this))
  case pos =>
    rw [if_neg (by rw [hsz]; simp)]
    refine wpAny_bind (wpAny_dictEpoch hoa hda ?_)
    refine wpAny_bind ?_
    rw [Std.Legacy.Range.forIn_eq_forIn_range']
    simp only [Std.Legacy.Range.size, Nat.sub_zero, Nat.add_sub_cancel, Nat.div_one]
    refine wpAny_forIn_list _
      (fun rest q s' => I s' ∧ q = (none, ()) ∧ ∃ i, rest = List.range' i (es.size - i) ∧ i ≤ es.size ∧ ∀ j, j < i → t j = true)
      _ ?_ ?_ _ _ ⟨h0, rfl, 0, by simp, Nat.zero_le _, fun j hj => absurd hj (Nat.not_lt_zero _)⟩
    · rintro x rest q s' ⟨hI, rfl, i, hrs, hi, hall⟩
      obtain ⟨hoa, hob⟩ := keep s' hI
      have hlt : i < es.size := by
        rcases Nat.lt_or_ge i es.size with h | h
        · exact h
        · rw [Nat.sub_eq_zero_of_le h] at hrs; simp at hrs
      obtain ⟨rfl, hrest⟩ : x = i ∧ rest = List.range' (i + 1) (es.size - (i + 1)) := by
        have e : es.size - i = (es.size - (i + 1)) + 1 := by omega
        rw [e, List.range'_succ] at hrs
        injection hrs with h1 h2
        exact ⟨h1, h2⟩
      refine wpAny_bind (wpAny_dictEntries hoa hda ?_)
      rw [Array.getElem?_eq_getElem hlt]
      have hlt' : x < ka.length := by rw [hla]; exact hlt
      obtain ⟨k, v, hkv⟩ : ∃ k v, ka[x] = (k, v) := ⟨_, _, rfl⟩
      obtain ⟨hkey, hval⟩ := hpa.get? (i := x) (e := es[x]) (k := k) (v := v) (by rw [Array.getElem?_toList]; exact Array.getElem?_eq_getElem hlt) (by rw [List.getElem?_eq_getElem hlt', hkv])
      obtain ⟨k', hk', hh⟩ := hka es[x] (Array.getElem_mem hlt)
      have ekk : k' = k := knd.inj _ _ _ hk' hkey
      rw [ekk] at hh
      have hx := hit x k v (by rw [List.getElem?_eq_getElem hlt', hkv])
      show wpAny _ _ (holding [es[x].key, es[x].val] _ >>= _) _ _ _
      rw [hh]
      refine wpAny_bind (wpAny_holding (wpAny_bind (wpAny_dictFind_of hkey hob hdb hkb ?_)))
      have rF : t x = false → Q false s' := fun e => by
        have hrf : r = false := by
          rw [← Bool.not_eq_true, hr]
          rintro ⟨_, z⟩
          have := z x hlt'
          rw [e] at this
          cases this
        have := h s' hI
        rw [hrf] at this
        exact this
      cases hj : es'.findIdx? fun e => knd.is k e.key with
      | none =>
        have hn : valueAt kb k = none := by rw [← hfind k, findBy_of_findIdx?, hj]
        rcases hx with ⟨_, er⟩ | ⟨y, hy, _⟩
        · refine wpAny_pure ?_
          show wpAny _ _ (if (!false) = true then _ else _) _ _ _
          rw [if_pos (by decide)]
          exact wpAny_pure (wpAny_pure (rF er))
        · rw [hn] at hy; exact nomatch hy
      | some j =>
        obtain ⟨hjlt, _, _⟩ := Array.findIdx?_eq_some_iff_getElem.mp hj
        have hv' : valueAt kb k = some es'[j].val := by
          rw [← hfind k, findBy_of_findIdx?, hj]
          simp [Array.getElem?_eq_getElem hjlt]
        refine wpAny_bind (wpAny_dictEntries hob hdb ?_)
        rw [Array.getElem?_eq_getElem hjlt]
        rcases hx with ⟨hn, _⟩ | ⟨y, hy, he⟩
        · rw [hv'] at hn; exact nomatch hn
        · have ey : es'[j].val = y := Option.some.inj (hv'.symm.trans hy)
          rw [← ey, ← hval] at he
          refine wpAny_holding (wpAny_mono (he s' hI) (fun e s2 ⟨h1, h2⟩ => ?_) fun _ _ z => z)
          obtain ⟨hoa2, hob2⟩ := keep s2 h2
          cases ht : t x with
          | false =>
            rw [ht] at h1
            subst h1
            show wpAny _ _ (if (!false) = true then _ else _) _ _ _
            rw [if_pos (by decide)]
            have hrf : r = false := by
              rw [← Bool.not_eq_true, hr]
              rintro ⟨_, z⟩
              have := z x hlt'
              rw [ht] at this
              cases this
            have := h s2 h2
            rw [hrf] at this
            exact wpAny_pure (wpAny_pure this)
          | true =>
            rw [ht] at h1
            subst h1
            show wpAny _ _ (if (!true) = true then _ else _) _ _ _
            rw [if_neg (by decide)]
            refine wpAny_bind (wpAny_dictEpoch hoa2 hda ?_)
            rw [if_neg (by simp)]
            exact wpAny_pure ⟨h2, rfl, x + 1, hrest, hlt, fun j hj => by
              by_cases e : j = x
              · rw [e]; exact ht
              · exact hall j (by omega)⟩
    · rintro q s' ⟨hI, rfl, i, hrs, hi, hall⟩
      have hin : i = es.size := by
        rcases Nat.lt_or_ge i es.size with h | h
        · have e : es.size - i = (es.size - (i + 1)) + 1 := by omega
          rw [e, List.range'_succ] at hrs; exact nomatch hrs
        · exact Nat.le_antisymm hi h
      refine wpAny_pure ?_
      have hrt : r = true := hr.mpr ⟨by rw [hla, hlb, hsz], fun j hj => hall j (by rw [hin, ← hla]; exact hj)⟩
      have := h s' hI
      rw [hrt] at this
      exact this
theorem dict_eqB {a b : Addr} {ka kb : List (K × Value)} {oa ob : Obj} {r : Bool} {Q : Value → Shared → Prop} (t : Nat → Bool) (I : Shared → Prop) (ha : (a == sysModules) = false) (hb : (b == sysModules) = false)
    (da : s.heap.DictOf knd a ka) (db : s.heap.DictOf knd b kb) (hu : A.units < cLine) (keep : ∀ s', I s' → s'.heap.get? a = some oa ∧ s'.heap.get? b = some ob)
    (hit : ∀ i k v, ka[i]? = some (k, v) → (valueAt kb k = none ∧ t i = false) ∨ ∃ y, valueAt kb k = some y ∧ ∀ s', I s' → wpAny (model prog w) A.in1 (eqBool v y) (fun e s2 => e = t i ∧ I s2) E s')
    (hr : r = true ↔ ka.length = kb.length ∧ ∀ i, i < ka.length → t i = true) (h : ∀ s', I s' → Q (.bool r) s') (h0 : I s) :
    wpAny (model prog w) A (compareOp .Eq (.ref a) (.ref b)) Q E s := by
  refine wpAny_richCompare_same_room (op := .Eq) da.typeIs db.typeIs PySem.F.slot_dict_eq (wpAny_call_entry PySem.F.slot_dict_eq da.typeIs PySem.F.entry_dict_eq ?_ (PySem.F.args_dict_eq_2 _ _)) hu
  show wpAny _ _ (Builtin.Dict.dictSlotArgs "__eq__" ⟨[.ref a, .ref b], []⟩ >>= _) _ _ s
  refine wpAny_bind ?_
  unfold Builtin.Dict.dictSlotArgs
  refine wpAny_bind (wpAny_notOrdered_dict da.typeIs ?_)
  show wpAny _ _ (pure (Value.ref a, Value.ref b)) _ _ s
  refine wpAny_pure ?_
  refine wpAny_bind (wpAny_isInstance (T := "dict") db.typeIs PySem.F.sub_dict_dict ?_)
  simp only [Bool.not_true, Bool.false_eq_true, if_false]
  refine wpAny_bind (wpAny_pure (wpAny_bind (wpAny_pure ?_)))
  refine wpAny_bind (samePairsB t I ha hb da db keep hit hr (fun s' hI => ?_) h0)
  refine wpAny_pure ⟨_, rfl, ?_, ?_⟩
  · exact fun x => nomatch x
  · rw [show (r == true) = r from by cases r <;> rfl]
    exact h s' hI
end
section
variable {X : Cx} {CX : CXT} {k : Nat} {C f : Addr} {fd : FuncData} {ps : List Str} {sp : Sp} {E : XK}
/-- two dicts of instances by name; t tells which entries are equal -/
def rDictB (C : Addr) (sp : Sp) (E : XK) : R2 := fun x y H Q => ∃ a b, ∃ ks ls : List (Key × V), ∃ t : Nat → Bool, ∃ ans : Bool, x = .ref a ∧ y = .ref b ∧ a ≠ b ∧ H a = some (.dK ks) ∧ H b = some (.dK ls) ∧
  (∀ (i : Nat) k u, ks[i]? = some (k, u) → (valV ls k = none ∧ t i = false) ∨ ∃ v, valV ls k = some v ∧ ∃ p q dx dy fs gs, u = .ref p ∧ v = .ref q ∧ H p = some (.ins C dx fs) ∧ H q = some (.ins C dy gs) ∧ (p = q → t i = true) ∧ ∀ H' : Hp, (∀ c o, c ≠ a → c ≠ b → H c = some o → H' c = some o) → sp [.ref p, .ref q] H' (fun w H2 => w = .bl (t i) ∧ H2 = H') E) ∧
  (ans = true ↔ ks.length = ls.length ∧ ∀ i, i < ks.length → t i = true) ∧ Q (.bl ans) H
theorem op_dictB (hs : PySem.W.findIn X.K (.ref C) "__eq__" = some (some (.ref f))) (hf : PySem.W.isFn X.K (.ref f) = true) (Fk : FnOk X.prog X.w X.K X.mg X.base CX k f fd ps sp) (hr : Room (k + 1) X.A) (hb : Binds X.K fd ps []) (hx : Passes CX X E) : OpR X (compareOp .Eq) (rDictB C sp E) := by
  intro pins s σ H x y v u Q I rx ry h
  obtain ⟨a, b, ks, ls, t, ans, rfl, rfl, hne, ha, hb', hi, hans, q⟩ := h
  cases rx
  cases ry
  obtain ⟨_, ya, va, ra, da⟩ := (show ObjOk X.prog X.w H s.heap a (.dK ks) from I.hok a _ ha)
  obtain ⟨_, yb, vb, rb, db⟩ := (show ObjOk X.prog X.w H s.heap b (.dK ls) from I.hok b _ hb')
  obtain ⟨oa, I1⟩ := I.lock ha trivial
  have hb1 : (upd H a (.frz oa (.dK ks))) b = some (.dK ls) := by rw [upd_ne (Ne.symm hne)]; exact hb'
  obtain ⟨ob, I2⟩ := I1.lock hb1 trivial
  have hu : X.A.units < cLine := hr.units0
  have ea : (upd (upd H a (.frz oa (.dK ks))) b (.frz ob (.dK ls))) a = some (.frz oa (.dK ks)) := by rw [upd_ne hne]; exact upd_same
  have eb : (upd (upd H a (.frz oa (.dK ks))) b (.frz ob (.dK ls))) b = some (.frz ob (.dK ls)) := upd_same
  have back : upd (upd (upd (upd H a (.frz oa (.dK ks))) b (.frz ob (.dK ls))) b (.dK ls)) a (.dK ks) = H := by
    funext c
    by_cases e1 : c = a
    · rw [e1, upd_same, ha]
    · rw [upd_ne e1]
      by_cases e2 : c = b
      · rw [e2, upd_same, hb']
      · rw [upd_ne e2, upd_ne e2, upd_ne e1]
  have kp : ∀ c o, c ≠ a → c ≠ b → H c = some o → (upd (upd H a (.frz oa (.dK ks))) b (.frz ob (.dK ls))) c = some o := fun c o h1 h2 h3 => by rw [upd_ne h2, upd_ne h1]; exact h3
  show wpAny (model X.prog X.w) X.A (compareOp .Eq (.ref a) (.ref b)) (EP X pins σ Q) X.xe s
  refine dict_eqB (oa := oa) (ob := ob) (r := ans) t (fun s' => Inv X pins σ (upd (upd H a (.frz oa (.dK ks))) b (.frz ob (.dK ls))) s') ya yb da db hu (fun s' I' => ?_) (fun i k v hk => ?_) ?_ (fun s' I' => ?_) I2
  · have xa : ObjOk X.prog X.w _ s'.heap a (.frz oa (.dK ks)) := I'.hok a _ ea
    have xb : ObjOk X.prog X.w _ s'.heap b (.frz ob (.dK ls)) := I'.hok b _ eb
    exact ⟨xa.1, xb.1⟩
  · have hk' : i < va.length := (List.getElem?_eq_some_iff.mp hk).1
    have hki : i < ks.length := by rw [ra.length]; exact hk'
    obtain ⟨z, hz, ez⟩ := paired_get ra (List.getElem?_eq_getElem hki)
    rw [hk] at hz
    obtain rfl := Option.some.inj hz
    obtain ⟨e1, ru⟩ := ez
    have hks : ks[i]? = some (k, (ks[i]).2) := by rw [List.getElem?_eq_getElem hki]; exact congrArg some (Prod.ext e1 rfl)
    have at_ : RelO (valV ls k) (valueAt vb k) := rb.val _
    rcases hi i k _ hks with ⟨f1, f2⟩ | ⟨v', f1, p', q', dx, dy, fs, gs, eu, evv, hp, hq, hsame, hsp⟩
    · rw [f1] at at_
      refine .inl ⟨?_, f2⟩
      cases hv : valueAt vb k with
      | none => rfl
      | some y => rw [hv] at at_; exact at_.elim
    · rw [f1] at at_
      obtain ⟨y, hy, ry⟩ := at_.some_of
      refine .inr ⟨y, hy, fun s' I' => ?_⟩
      have ru : RelV (ks[i]).2 v := ru
      rw [eu] at ru
      rw [evv] at ry
      obtain rfl : v = Value.ref p' := ru
      obtain rfl : y = Value.ref q' := ry
      have nep : ∀ c d xs ys, H c = some (.ins C d xs) → H a = some (.dK ys) → c ≠ a := fun c d xs ys h1 h2 z => by rw [z, h2] at h1; cases h1
      have hpa : p' ≠ a := fun z => by rw [z, ha] at hp; cases hp
      have hpb : p' ≠ b := fun z => by rw [z, hb'] at hp; cases hp
      have hqa : q' ≠ a := fun z => by rw [z, ha] at hq; cases hq
      have hqb : q' ≠ b := fun z => by rw [z, hb'] at hq; cases hq
      have hp := kp p' _ hpa hpb hp
      have hq := kp q' _ hqa hqb hq
      have hsp := hsp _ kp
      by_cases hab : p' = q'
      · subst hab
        exact eqBool_same ⟨(hsame rfl).symm, I'⟩
      · obtain ⟨mA, J, _⟩ := ins_get I'.hok hp
        obtain ⟨mB, J', _⟩ := ins_get I'.hok hq
        obtain ⟨od, J, _⟩ := J.look
        obtain ⟨od', J', _⟩ := J'.look
        obtain ⟨m, hF⟩ := I'.fr
        refine GQ.eqBool_refG hab (PySem.W.cmp_K (op := .Eq) (tb := .ref C) hr.in1.units0 hF I'.ok.mod.kin J J'.type (by simp [PySem.W.notFirst]) hs hf (wpAny_mono (run_own1 (vs := [V.ref p', V.ref q']) Fk hr hb hx I' (.cons rfl (.cons rfl .nil)) hsp) (fun v s2 hv => ?_) fun _ _ e => e))
        obtain ⟨x, H2, I2', rv, ex, eH⟩ := hv
        subst ex
        subst eH
        obtain rfl : v = Value.bool (t i) := rv
        exact ⟨t i, rfl, rfl, I2'⟩
  · rw [hans, ra.length, rb.length]
  · have I3 := I'.unlock eb (I1.nofrz hb1 trivial)
    have I4 := I3.unlock (d := a) (od := oa) (u := .dK ks) (by rw [upd_ne hne]; exact ea) (I.nofrz ha trivial)
    rw [back] at I4
    exact ⟨.bl ans, H, I4, rfl, q⟩
end
theorem room128 {k : Nat} {A : Around} (r : Room k A) : A.units + 128 < cLine := by have := r.un; omega
/-! dicts of data compared -/
section
open PySem.W PySem.SeqAt
theorem hits_of {K : Type} [DecidableEq K] {A : Around} {s : Shared} {vb : List (K × Value)} : ∀ (va : List (K × Value)) (t : Nat → Bool), (∀ (i : Nat) k v, va[i]? = some (k, v) → (valueAt vb k = none ∧ t i = false) ∨ ∃ y, valueAt vb k = some y ∧ EqAt A s v y (t i)) → ∃ r, KeqHits A s vb va r ∧ (r = true ↔ ∀ i, i < va.length → t i = true)
  | [], t, _ => ⟨true, .nil, by simp⟩
  | (k, v) :: va, t, h => by
    obtain ⟨r, hr, er⟩ := hits_of va (fun i => t (i + 1)) fun i k v hi => h (i + 1) k v hi
    rcases h 0 k v rfl with ⟨h1, h2⟩ | ⟨y, h1, h2⟩
    · refine ⟨false, .miss h1, ?_⟩
      constructor
      · intro z; cases z
      · intro z
        have := z 0 (Nat.zero_lt_succ _)
        rw [h2] at this
        cases this
    · refine ⟨t 0 && r, .hit h1 h2 hr, ?_⟩
      rw [Bool.and_eq_true, er]
      constructor
      · rintro ⟨a, b⟩ i hi
        cases i with
        | zero => exact a
        | succ i => exact b i (Nat.lt_of_succ_lt_succ hi)
      · intro z
        exact ⟨z 0 (Nat.zero_lt_succ _), fun i hi => z (i + 1) (Nat.succ_lt_succ hi)⟩
end
section
variable {X : Cx}
def rNeDD (K : PySem.W.Frag) : R2 := fun x y H Q => ∃ a b, ∃ ks ls : List (Key × V), ∃ t : Nat → Bool, ∃ ans : Bool, x = .ref a ∧ y = .ref b ∧ H a = some (.dK ks) ∧ H b = some (.dK ls) ∧
  (∀ (i : Nat) k u, ks[i]? = some (k, u) → (valV ls k = none ∧ t i = false) ∨ ∃ v d e, valV ls k = some v ∧ Dp K H u d ∧ Dp K H v e ∧ SeqAt.shaped d = true ∧ SeqAt.shaped e = true ∧ PyData.eqv d e = t i) ∧
  (ans = true ↔ ks.length = ls.length ∧ ∀ i, i < ks.length → t i = true) ∧ Q (.bl (!ans)) H
theorem op_neDD (hu : X.A.units + 128 < cLine) : OpR X (compareOp .NotEq) (rNeDD X.K) := by
  intro pins s σ H x y v u Q I rx ry h
  obtain ⟨a, b, ks, ls, t, ans, rfl, rfl, ha, hb, hi, hans, q⟩ := h
  cases rx
  cases ry
  obtain ⟨_, ya, va, ra, da⟩ := (show ObjOk X.prog X.w H s.heap a (.dK ks) from I.hok a _ ha)
  obtain ⟨_, yb, vb, rb, db⟩ := (show ObjOk X.prog X.w H s.heap b (.dK ls) from I.hok b _ hb)
  obtain ⟨r, hr, er⟩ := hits_of (A := X.A.in1) (s := s) (vb := vb) va t fun i k v hk => by
    have hk' : i < va.length := (List.getElem?_eq_some_iff.mp hk).1
    have hki : i < ks.length := by rw [ra.length]; exact hk'
    obtain ⟨z, hz, ez⟩ := paired_get ra (List.getElem?_eq_getElem hki)
    rw [hk] at hz
    obtain rfl := Option.some.inj hz
    obtain ⟨e1, ru⟩ := ez
    have hks : ks[i]? = some (k, (ks[i]).2) := by rw [List.getElem?_eq_getElem hki]; exact congrArg some (Prod.ext e1 rfl)
    have at_ : RelO (valV ls k) (valueAt vb k) := rb.val _
    rcases hi i k _ hks with ⟨f1, f2⟩ | ⟨v', d, e, f1, hd, he, sd, se, hq⟩
    · rw [f1] at at_
      refine .inl ⟨?_, f2⟩
      cases hv : valueAt vb k with
      | none => rfl
      | some y => rw [hv] at at_; exact at_.elim
    · rw [f1] at at_
      obtain ⟨y, hy, ry⟩ := at_.some_of
      obtain ⟨_, R1⟩ := Dp.reads I d _ v hd ru
      obtain ⟨_, R2⟩ := Dp.reads I e v' y he ry
      have := SeqAt.eqAt_reads d e X.A.in1 s v y _ _ R1 R2 (SeqAt.canLay_of_shaped sd) (SeqAt.canLay_of_shaped se) (SeqAt.room_of_shaped sd (by show X.A.units + 1 + 64 < cLine; omega))
      rw [hq] at this
      exact .inr ⟨y, hy, this⟩
  refine PySem.W.keq_ne (r := r) ya yb da db (by omega) (fun _ => hr) (fin_bl I q ?_)
  have hl : va.length = ks.length := ra.length.symm
  have hl' : vb.length = ls.length := rb.length.symm
  congr 1
  rw [Bool.eq_iff_iff, hans, Bool.and_eq_true, er, hl, hl', beq_iff_eq]
end
/-! xs[::e] where e is 1 or -1 -/
section
variable {X : Cx}
def tStepL (K : PySem.W.Frag) (te ts : TE) : TE := fun σ H Q => te σ H fun x H1 => tPart ts σ H1 fun o H2 => ∃ c, o = some c ∧ ∃ a xs, x = .ref a ∧ SqL K H2 a xs ∧ (c = 1 ∨ c = -1) ∧ ∀ p, H2 p = none → Q (.ref p) (upd H2 p (.lst (if c = 1 then xs else xs.reverse)))
theorem pe_stepL {e f : Expr} {te ts : TE} {p3 pos : Pos} (he : PE X e te) (hf : PE X f ts) : PE X (.Subscript e (.Slice none none (some f) p3) pos) (tStepL X.K te ts) := by
  refine ⟨fun pins s σ H Q I h => ?_⟩
  refine Subscript_ (thn (he.run pins s σ H _ I h) fun v s1 ⟨x, H1, I1, r1, q1⟩ => ?_)
  have hst : PO X (some f) (tPart ts) := po_some hf
  refine wpAny_Slice (thn (po_none.run pins s1 σ H1 (fun o H2 => o = none ∧ H2 = H1) I1 ⟨rfl, rfl⟩) fun vl s2 ⟨l, H2, I2, pl, el, e2⟩ => ?_)
  subst el e2
  refine thn (po_none.run pins s2 σ H2 (fun o H3 => o = none ∧ H3 = H2) I2 ⟨rfl, rfl⟩) fun vu s3 ⟨u, H3, I3, pu, eu, e3⟩ => ?_
  subst eu e3
  refine thn (hst.run pins s3 σ H3 _ I3 q1) fun vs s4 ⟨o, H4, I4, ps, c, eo, a, xs, ex, hx, hc, q⟩ => ?_
  subst eo
  subst ex
  cases r1
  have I5 : Inv X pins σ H4 { s4 with heap := s4.heap.push { cls := .type "slice", data := .fields #[vl, vu, vs] } } := I4.kept (t' := s4.toks) fun b ob q => Heap.get?_push_of_some _ q
  obtain ⟨its, r, ht, hz⟩ := I5.list hx
  have hlen := r.length
  show wpAny (model X.prog X.w) X.A (subscriptTail e (.Slice none none (some f) p3) (.ref a) (.ref s4.heap.objs.size)) (EP X pins σ Q) X.xe { s4 with heap := s4.heap.push { cls := .type "slice", data := .fields #[vl, vu, vs] } }
  refine tail_any (ops := [.ref a, .ref s4.heap.objs.size]) ht.isList.typeIs (PySem.slot_list_getitem.lookup) ?_ (by with_unfolding_all rfl)
  have hne : (some c : Option Int) ≠ some 0 := by rcases hc with rfl | rfl <;> decide
  refine wpAny_getItem_list_slice ht.isList (Heap.IsSliceOf.new _ vl vu vs) pl pu ps hne ?_ (by rw [List.size_toArray]; omega)
  rcases hc with rfl | rfl
  · rw [show slicePick its.toArray none none (some 1) = slicePick its.toArray none none none from rfl, L2.slicePick_cut, HT.sIx_none, HT.sIx_none, List.drop_zero, Nat.sub_zero, List.take_length]
    refine ⟨.ref _, _, I5.laid (t' := s4.toks) (o := .lst xs) (fun b ob q => Heap.get?_push_of_some _ q) (Nat.le_refl _) ?_, rfl, q _ (I5.hok.fresh (Nat.le_refl _))⟩
    exact ⟨hz, _, 0, r, Heap.get?_push_size _ rfl⟩
  · rw [PySem.W.krv_pick]
    refine ⟨.ref _, _, I5.laid (t' := s4.toks) (o := .lst xs.reverse) (fun b ob q => Heap.get?_push_of_some _ q) (Nat.le_refl _) ?_, rfl, q _ (I5.hok.fresh (Nat.le_refl _))⟩
    exact ⟨by rw [List.length_reverse]; exact hz, _, 0, r.reverse, Heap.get?_push_size _ rfl⟩
end
/-! an instance != an integer -/
section
variable {X : Cx} {CX : CXT} {k : Nat} {C f : Addr} {fd : FuncData} {ps : List Str} {sp : Sp} {E : XK}
def rNeI (C : Addr) (sp : Sp) (E : XK) : R2 := fun x y H Q => ∃ a dx fs, ∃ n : Int, x = .ref a ∧ y = .int n ∧ H a = some (.ins C dx fs) ∧ sp [.ref a, .int n] H (fun v H' => ∃ b, v = .bl b ∧ Q (.bl (!b)) H') E
theorem ne_ownI (N : NoNe X.K C f) (hi : PySem.W.subIn X.K (.type "int") (.ref C) = some false) (F : FnOk X.prog X.w X.K X.mg X.base CX k f fd ps sp) (hr : Room (k + 1) X.A) (hb : Binds X.K fd ps []) (hx : Passes CX X E) : OpR X (compareOp .NotEq) (rNeI C sp E) := by
  intro pins s σ H x y v u Q I rx ry h
  obtain ⟨a, dx, fs, n, rfl, rfl, ea, q⟩ := h
  obtain rfl : v = Value.ref a := rx
  obtain ⟨t, rfl⟩ := ry
  obtain ⟨mA, J, _⟩ := ins_get I.hok ea
  obtain ⟨od, J, _⟩ := J.look
  show wpAny (model X.prog X.w) X.A (richCompare .NotEq (.ref a) (.int n t)) (EP X pins σ Q) X.xe s
  refine ne_KI (by have := hr.un; omega) I.kIn N hi J (wpAny_mono (run_own1 (vs := [V.ref a, V.int n]) F hr hb hx I (.cons rfl (.cons ⟨t, rfl⟩ .nil)) q) (fun v s2 hv => ?_) fun _ _ e => e)
  obtain ⟨x, H2, I2, rv, b, ex, q2⟩ := hv
  subst ex
  obtain rfl : v = Value.bool b := rv
  exact ⟨b, rfl, .bl (!b), H2, I2, rfl, q2⟩
end
/-! lists != whose items are dicts of the same entries -/
section
open PySem.SeqAt
open AutoSeq1 (wpAny_loadPart')
open MeetsSeq MeetsSeq2 MeetsSeq3
variable {prog : Program} {w : World}
theorem ne_loopIn (l b : Addr) (items items2 : Array Value) (n n2 : Nat) (dd dd2 : Option Addr) (sl sl2 : Array (Option Value)) (hsz : items.size = items2.size) (e : Nat → Bool) (k : Nat) :
    ∀ i : Nat, items.size - i = k → MeetsIn prog w (Builtin.«list.__eq__.loop» ⟨[.ref l, .ref b, rawInt i, rawInt 3], []⟩)
      (fun A R s => s.heap.get? l = some { cls := .type "list", dict := dd, data := .seq items n, slots := sl } ∧ s.heap.get? b = some { cls := .type "list", dict := dd2, data := .seq items2 n2, slots := sl2 } ∧
        (∀ j (h1 : j < items.size) (h2 : j < items2.size), EqIn prog w A.in1 s items[j] items2[j] (e j)) ∧
        R (.ok (.ret (.bool (!((List.range items.size).drop i).all e)))) s) := by
  induction k with
  | zero =>
    intro i hk A R s h
    obtain ⟨hp, g, d, tk, os⟩ := s; obtain ⟨hl, hb, he, h⟩ := h
    wp_walk using wpAny_loadPart' hl, wpAny_loadPart' hb
    have hi1 : items[((i : Nat) : Int).toNat]? = none := by simp; omega
    have hi2 : items2[((i : Nat) : Int).toNat]? = none := by simp; omega
    have hd : (List.range items.size).drop i = [] := by simp; omega
    rw [hd] at h
    rw [hi1, hi2]
    wp_walk using wpAny_loadPart' hl, wpAny_loadPart' hb
    show R (.ok (.ret (.bool (items.size != items2.size)))) _
    rw [hsz]
    simpa using h
  | succ k ih =>
    intro i hk A R s h
    obtain ⟨hp, g, d, tk, os⟩ := s; obtain ⟨hl, hb, he, h⟩ := h
    wp_walk using wpAny_loadPart' hl, wpAny_loadPart' hb
    have hlt : i < items.size := by omega
    have hlt2 : i < items2.size := by omega
    have hi1 : items[((i : Nat) : Int).toNat]? = some items[i] := by simp [hlt]
    have hi2 : items2[((i : Nat) : Int).toNat]? = some items2[i] := by simp [hlt2]
    have hd : (List.range items.size).drop i = i :: (List.range items.size).drop (i + 1) := by simp [List.drop_eq_getElem_cons, hlt]
    have hc : ((i : Int) + 1) = ((i + 1 : Nat) : Int) := by push_cast; rfl
    rw [hd, List.all_cons] at h
    rw [hi1, hi2]
    refine wpAny_bind (he i hlt hlt2 _ _ ?_)
    cases hb' : e i with
    | true =>
      rw [hb'] at h
      wp_walk
      rw [hc]
      exact ⟨plainId_quiet plain_eq_loop _, codeAny_builtin entry_eq_loop (by
        rw [Around.under_plainId plain_eq_loop _]
        exact ih (i + 1) (by omega) A R _ ⟨hl, hb, he, by simpa using h⟩)⟩
    | false =>
      rw [hb'] at h
      wp_walk using wpAny_loadPart' hl, wpAny_loadPart' hb
      rw [hi1, hi2]
      wp_walk
      simpa using h
theorem list_neIn (l b : Addr) (items items2 : Array Value) (n n2 : Nat) (dd dd2 : Option Addr) (sl sl2 : Array (Option Value)) (hsz : items.size = items2.size) (e : Nat → Bool) :
    MeetsIn prog w (Builtin.«list.__ne__» ⟨[.ref l, .ref b], []⟩)
      (fun A R s => s.heap.get? l = some { cls := .type "list", dict := dd, data := .seq items n, slots := sl } ∧ s.heap.get? b = some { cls := .type "list", dict := dd2, data := .seq items2 n2, slots := sl2 } ∧
        (∀ j (h1 : j < items.size) (h2 : j < items2.size), EqIn prog w A.in1 s items[j] items2[j] (e j)) ∧
        R (.ok (.ret (.bool (!(List.range items.size).all e)))) s) := by
  intro A R s h
  obtain ⟨hp, g, d, tk, os⟩ := s; obtain ⟨hl, hb, he, h⟩ := h
  have f3 := AutoSeq1.sub_list_list
  have hne : ¬ (items.size != items2.size) = true := by simp [hsz]
  wp_walk using wpAny_loadPart' hl, wpAny_loadPart' hb
  exact ⟨plainId_quiet plain_eq_loop _, codeAny_builtin entry_eq_loop (by
    rw [Around.under_plainId plain_eq_loop _]
    exact ne_loopIn l b items items2 n n2 dd dd2 sl sl2 hsz e _ 0 rfl A R _ ⟨hl, hb, he, by simpa using h⟩)⟩
theorem rcNeIn_lists {A : Around} {s : Shared} {E : Value → Shared → Prop} {l b : Addr} {items items2 : Array Value} {e : Nat → Bool} {Q : Value → Shared → Prop} (hl : s.heap.IsList l items) (hb : s.heap.IsList b items2) (hsz : items.size = items2.size) (hu : A.units < cLine)
    (he : ∀ j (h1 : j < items.size) (h2 : j < items2.size), EqIn prog w A.in1 s items[j] items2[j] (e j)) (h : Q (.bool (!(List.range items.size).all e)) s) : wpAny (model prog w) A (richCompare .NotEq (.ref l) (.ref b)) Q E s := by
  obtain ⟨⟨cls, dd, data, sl⟩, ho, hc, n, hd⟩ := id hl
  obtain ⟨⟨cls2, dd2, data2, sl2⟩, ho2, hc2, n2, hd2⟩ := id hb
  simp only at hc hd hc2 hd2
  subst hc hd hc2 hd2
  exact wpAny_richCompare_same_room (T := "list") (op := .NotEq) ⟨_, ho, rfl⟩ ⟨_, ho2, rfl⟩ F.slot_list_ne (call_meetsIn F.slot_list_ne ⟨_, ho, rfl⟩ F.entry_list_ne (F.args_list_ne_2 _ _) (list_neIn l b items items2 n n2 dd dd2 sl sl2 hsz e)
    ⟨ho, ho2, he, show Value.bool (!(List.range items.size).all e) ≠ Value.notImplemented ∧ Q (.bool (!(List.range items.size).all e)) s from ⟨(fun x => nomatch x), h⟩⟩) hu
end
section
open PySem.W
variable {X : Cx}
theorem valV_mem {κ : Type} [DecidableEq κ] {k : κ} {u : V} : ∀ (ks : List (κ × V)), (ks.map (·.1)).Nodup → (k, u) ∈ ks → valV ks k = some u
  | [], _, hm => by cases hm
  | p :: r, nd, hm => by
    rw [List.map_cons, List.nodup_cons] at nd
    unfold valV
    rw [List.find?_cons]
    rcases List.mem_cons.mp hm with h | h
    · rw [← h, decide_eq_true rfl]
      rfl
    · have e : p.1 ≠ k := fun e => nd.1 (by rw [e]; exact List.mem_map_of_mem (f := (·.1)) h)
      rw [decide_eq_false e]
      exact valV_mem r nd.2 h
/-- two dicts of the same entries -/
def SameD (K : PySem.W.Frag) (H : Hp) (u v : V) : Prop := ∃ a b ks, u = .ref a ∧ v = .ref b ∧ a ≠ b ∧ H a = some (.dK ks) ∧ H b = some (.dK ks) ∧ (ks.map (·.1)).Nodup ∧ ∀ p ∈ ks, EqV K H p.2 p.2
theorem eqV_tree {pins : List (Addr × Obj)} {σ : L2.St} {H : Hp} {s : Shared} (I : Inv X pins σ H s) {x : V} {v y : Value} (h : EqV X.K H x x) (rv : RelV x v) (ry : RelV x y) : EqTree X.prog X.w s 70 v y true := by
  cases h with
  | same c =>
    obtain rfl : v = Value.ref c := rv
    obtain rfl : y = Value.ref c := ry
    exact .same
  | @data _ _ d e hd hd2 sd se hq =>
    obtain ⟨_, R1⟩ := Dp.reads I d x v hd rv
    obtain ⟨_, R2⟩ := Dp.reads I e x y hd2 ry
    refine .leaf fun A hu => ?_
    have := SeqAt.eqAt_reads d e A s v y _ _ R1 R2 (SeqAt.canLay_of_shaped sd) (SeqAt.canLay_of_shaped se) (SeqAt.room_of_shaped sd (by omega))
    rw [hq] at this
    exact this
theorem sameD_tree {pins : List (Addr × Obj)} {σ : L2.St} {H : Hp} {s : Shared} (I : Inv X pins σ H s) {a b : Addr} {ks : List (Key × V)} (hne : a ≠ b) (ha : H a = some (.dK ks)) (hb : H b = some (.dK ks)) (nd : (ks.map (·.1)).Nodup) (hv : ∀ p ∈ ks, EqV X.K H p.2 p.2) : EqTree X.prog X.w s 71 (.ref a) (.ref b) true := by
  obtain ⟨_, ya, va, ra, da⟩ := (show ObjOk X.prog X.w H s.heap a (.dK ks) from I.hok a _ ha)
  obtain ⟨_, yb, vb, rb, db⟩ := (show ObjOk X.prog X.w H s.heap b (.dK ks) from I.hok b _ hb)
  have item : ∀ k v, (k, v) ∈ va → ∃ u, (k, u) ∈ ks ∧ RelV u v := fun k v hm => by
    obtain ⟨i, hi, e⟩ := List.getElem_of_mem hm
    have hki : i < ks.length := by rw [ra.length]; exact hi
    obtain ⟨z, hz, ez⟩ := paired_get ra (List.getElem?_eq_getElem hki)
    rw [List.getElem?_eq_getElem hi, e] at hz
    obtain rfl := Option.some.inj hz
    obtain ⟨e1, ru⟩ := ez
    exact ⟨(ks[i]).2, by rw [show (k, (ks[i]).2) = ks[i] from Prod.ext e1.symm rfl]; exact List.getElem_mem hki, ru⟩
  have found : ∀ k u, (k, u) ∈ ks → valV ks k = some u := fun k u hm => valV_mem ks nd hm
  have t := EqTree.dicts (e := fun _ => true) (n := 70) hne ya yb da db fun k v y hm hy => by
    obtain ⟨u, hu, ru⟩ := item k v hm
    have at_ : RelO (valV ks k) (valueAt vb k) := rb.val _
    rw [found k u hu, hy] at at_
    exact eqV_tree I (hv _ hu) ru at_
  have e : (va.length == vb.length && va.all fun p => (valueAt vb p.1).isSome && true) = true := by
    rw [Bool.and_eq_true, beq_iff_eq, List.all_eq_true]
    refine ⟨by rw [← ra.length, ← rb.length], fun p hp => ?_⟩
    obtain ⟨u, hu, _⟩ := item p.1 p.2 hp
    have at_ : RelO (valV ks p.1) (valueAt vb p.1) := rb.val _
    rw [found _ u hu] at at_
    obtain ⟨y, hy, _⟩ := at_.some_of
    rw [hy]
    rfl
  rw [e] at t
  exact t
def rNeDicts (K : PySem.W.Frag) : R2 := fun x y H Q => ∃ a b xs ys, x = V.ref a ∧ y = V.ref b ∧ SqL K H a xs ∧ SqL K H b ys ∧ Paired (SameD K H) xs ys ∧ Q (.bl false) H
theorem op_neDicts (hu : X.A.units + 128 < cLine) : OpR X (compareOp .NotEq) (rNeDicts X.K) := by
  intro pins s σ H x y v u Q I rx ry h
  obtain ⟨a, b, xs, ys, rfl, rfl, ha, hb, hp, q⟩ := h
  obtain rfl : v = Value.ref a := rx
  obtain rfl : u = Value.ref b := ry
  obtain ⟨as, ra, pa, za⟩ := I.list ha
  obtain ⟨bs, rb, pb, zb⟩ := I.list hb
  have la : as.length = xs.length := ra.length.symm
  have lb : bs.length = ys.length := rb.length.symm
  have lab : xs.length = ys.length := hp.length
  show wpAny (model X.prog X.w) X.A (richCompare .NotEq (.ref a) (.ref b)) (EP X pins σ Q) X.xe s
  refine rcNeIn_lists (e := fun _ => true) pa.isList pb.isList (by simp; omega) (by omega) (fun j h1 h2 => ?_) (fin_bl I q (by simp))
  have i1 : j < xs.length := by simp at h1; omega
  have i2 : j < ys.length := by omega
  obtain ⟨u1, g1, r1⟩ := ra.get (List.getElem?_eq_getElem i1)
  obtain ⟨u2, g2, r2⟩ := rb.get (List.getElem?_eq_getElem i2)
  have e1 : as.toArray[j] = u1 := by
    have := (List.getElem?_eq_some_iff.mp g1).2
    simpa using this
  have e2 : bs.toArray[j] = u2 := by
    have := (List.getElem?_eq_some_iff.mp g2).2
    simpa using this
  rw [e1, e2]
  obtain ⟨y2, hy2, he⟩ := L2.paired_get hp (List.getElem?_eq_getElem i1)
  rw [List.getElem?_eq_getElem i2] at hy2
  obtain rfl := Option.some.inj hy2
  obtain ⟨c, d, ks, ec, ed, hne, hc, hd, nd, hv⟩ := he
  rw [ec] at r1
  rw [ed] at r2
  obtain rfl : u1 = Value.ref c := r1
  obtain rfl : u2 = Value.ref d := r2
  exact (sameD_tree I hne hc hd nd hv).at X.A.in1 (by show X.A.units + 1 + 71 < cLine; omega)
end
end My

namespace My
open PySem PySem.Spec PyProof.Rows L2
def topS (i : Nat) : Stmt := PySem.Challenge.pw_extralink_k54_standings.main.body.getD i (.Pass ⟨0, 0, 0, 0⟩)
abbrev s_as_ratio : Stmt := topS 12
theorem sc_as_ratio : FnScope ["value"] ["value"] (defScope s_as_ratio) := ⟨rfl, rfl, rfl, by decide +kernel, rfl, by decide +kernel, by decide +kernel⟩
abbrev s_start : Stmt := topS 18
theorem sc_start : FnScope ["_law_script", "_law_cell"] ["_law_script"] (defScope s_start) := ⟨rfl, rfl, rfl, by decide +kernel, rfl, by decide +kernel, by decide +kernel⟩
abbrev s_draw : Stmt := topS 19
theorem sc_draw : FnScope ["_law_state", "_law_size", "_law_digit", "_law_cell", "_law_one"] ["_law_state", "_law_size"] (defScope s_draw) := ⟨rfl, rfl, rfl, by decide +kernel, rfl, by decide +kernel, by decide +kernel⟩
abbrev s_low : Stmt := topS 20
theorem sc_low : FnScope ["_law_up", "_law_down", "_law_a", "_law_b"] ["_law_up", "_law_down"] (defScope s_low) := ⟨rfl, rfl, rfl, by decide +kernel, rfl, by decide +kernel, by decide +kernel⟩
abbrev s_plus : Stmt := topS 21
theorem sc_plus : FnScope ["_law_one", "_law_two"] ["_law_one", "_law_two"] (defScope s_plus) := ⟨rfl, rfl, rfl, by decide +kernel, rfl, by decide +kernel, by decide +kernel⟩
abbrev s_is : Stmt := topS 24
theorem sc_is : FnScope ["_law_actual", "_law_pair"] ["_law_actual", "_law_pair"] (defScope s_is) := ⟨rfl, rfl, rfl, by decide +kernel, rfl, by decide +kernel, by decide +kernel⟩
abbrev s_value : Stmt := topS 25
theorem sc_value : FnScope ["_law_state", "_law_pair", "_law_factor"] ["_law_state", "_law_pair"] (defScope s_value) := ⟨rfl, rfl, rfl, by decide +kernel, rfl, by decide +kernel, by decide +kernel⟩
abbrev s_names : Stmt := topS 26
theorem sc_names : FnScope ["_law_state", "_law_count", "_law_signs", "_law_stem", "_law_k", "_law_letter", "_law_offset", "_law_stride", "_law_plan", "_law_words", "_law_sign", "_law_rest"] ["_law_state", "_law_count"] (defScope s_names) := ⟨rfl, rfl, rfl, by decide +kernel, rfl, by decide +kernel, by decide +kernel⟩
abbrev s_table : Stmt := topS 27
theorem sc_table : FnScope ["_law_state", "_law_found", "_law_word"] ["_law_state"] (defScope s_table) := ⟨rfl, rfl, rfl, by decide +kernel, rfl, by decide +kernel, by decide +kernel⟩
abbrev s_given : Stmt := topS 28
theorem sc_given : FnScope ["_law_state", "_law_table_here", "_law_found", "_law_word"] ["_law_state", "_law_table_here"] (defScope s_given) := ⟨rfl, rfl, rfl, by decide +kernel, rfl, by decide +kernel, by decide +kernel⟩
abbrev s_agrees : Stmt := topS 29
theorem sc_agrees : FnScope ["_law_told", "_law_table_here", "_law_word"] ["_law_told", "_law_table_here"] (defScope s_agrees) := ⟨rfl, rfl, rfl, by decide +kernel, rfl, by decide +kernel, by decide +kernel⟩
abbrev s_near : Stmt := topS 30
theorem sc_near : FnScope ["_law_state", "_law_table_here", "_law_near_here", "_law_word"] ["_law_state", "_law_table_here"] (defScope s_near) := ⟨rfl, rfl, rfl, by decide +kernel, rfl, by decide +kernel, by decide +kernel⟩
abbrev s_law : Stmt := topS 31
theorem sc_law : FnScope ["_law_script", "_law_state", "_law_one", "_law_two", "_law_passed", "_law_kept", "_law_held", "_law_turn", "_law_told", "_law_same", "_law_others", "_law_other"] ["_law_script"] (defScope s_law) := ⟨rfl, rfl, rfl, by decide +kernel, rfl, by decide +kernel, by decide +kernel⟩
abbrev s_OutOfRange_init : Stmt := inClass (topS 4) 0
theorem sc_OutOfRange_init : FnScope ["self", "value"] ["self", "value"] (defScope s_OutOfRange_init) := ⟨rfl, rfl, rfl, by decide +kernel, rfl, by decide +kernel, by decide +kernel⟩
abbrev s_Ratio_init : Stmt := inClass (topS 11) 0
theorem sc_Ratio_init : FnScope ["self", "top", "bottom", "common"] ["self", "top", "bottom"] (defScope s_Ratio_init) := ⟨rfl, rfl, rfl, by decide +kernel, rfl, by decide +kernel, by decide +kernel⟩
abbrev s_Ratio_top : Stmt := inClass (topS 11) 2
theorem sc_Ratio_top : FnScope ["self"] ["self"] (defScope s_Ratio_top) := ⟨rfl, rfl, rfl, by decide +kernel, rfl, by decide +kernel, by decide +kernel⟩
abbrev s_Ratio_bottom : Stmt := inClass (topS 11) 3
theorem sc_Ratio_bottom : FnScope ["self"] ["self"] (defScope s_Ratio_bottom) := ⟨rfl, rfl, rfl, by decide +kernel, rfl, by decide +kernel, by decide +kernel⟩
abbrev s_Ratio_eq : Stmt := inClass (topS 11) 14
theorem sc_Ratio_eq : FnScope ["self", "other"] ["self", "other"] (defScope s_Ratio_eq) := ⟨rfl, rfl, rfl, by decide +kernel, rfl, by decide +kernel, by decide +kernel⟩
abbrev s_Standing_init : Stmt := inClass (topS 16) 0
theorem sc_Standing_init : FnScope ["self", "loads", "times", "name", "load", "place", "time"] ["self", "loads", "times"] (defScope s_Standing_init) := ⟨rfl, rfl, rfl, by decide +kernel, rfl, by decide +kernel, by decide +kernel⟩
abbrev s_Standing_loads : Stmt := inClass (topS 16) 1
theorem sc_Standing_loads : FnScope ["self"] ["self"] (defScope s_Standing_loads) := ⟨rfl, rfl, rfl, by decide +kernel, rfl, by decide +kernel, by decide +kernel⟩
abbrev s_Standing_times : Stmt := inClass (topS 16) 2
theorem sc_Standing_times : FnScope ["self"] ["self"] (defScope s_Standing_times) := ⟨rfl, rfl, rfl, by decide +kernel, rfl, by decide +kernel, by decide +kernel⟩
abbrev s_Standing_eq : Stmt := inClass (topS 16) 3
theorem sc_Standing_eq : FnScope ["self", "other"] ["self", "other"] (defScope s_Standing_eq) := ⟨rfl, rfl, rfl, by decide +kernel, rfl, by decide +kernel, by decide +kernel⟩
set_option maxHeartbeats 0 in
structure Txt (K : PySem.W.Frag) (mg : Str → Option Value) where
  f_OutOfRange : Addr
  m_OutOfRange : mg "OutOfRange" = some (.ref f_OutOfRange)
  f_Ratio : Addr
  m_Ratio : mg "Ratio" = some (.ref f_Ratio)
  cl_Ratio : Cls K f_Ratio
  ic_Ratio : C8.InsC K f_Ratio
  na_Ratio_top : NoAttr K f_Ratio "_top"
  na_Ratio_bottom : NoAttr K f_Ratio "_bottom"
  sn_Ratio_int : PySem.W.subIn K (.type "int") (.ref f_Ratio) = some false
  ki_Ratio_int : PySem.W.kitOne K (.type "int") (.ref f_Ratio) = some false
  f_Standing : Addr
  m_Standing : mg "Standing" = some (.ref f_Standing)
  cl_Standing : Cls K f_Standing
  ic_Standing : C8.InsC K f_Standing
  na_Standing_loads : NoAttr K f_Standing "_loads"
  na_Standing_times : NoAttr K f_Standing "_times"
  sn_Standing_int : PySem.W.subIn K (.type "int") (.ref f_Standing) = some false
  ki_Standing_int : PySem.W.kitOne K (.type "int") (.ref f_Standing) = some false
  f_as_ratio : Addr
  d_as_ratio : FuncData
  F_as_ratio : Fun K "as_ratio" "as_ratio" s_as_ratio f_as_ratio d_as_ratio
  b_as_ratio : Binds K d_as_ratio ["value"] []
  m_as_ratio : mg "as_ratio" = some (.ref f_as_ratio)
  f_start : Addr
  d_start : FuncData
  F_start : Fun K "_law_start" "_law_start" s_start f_start d_start
  b_start : Binds K d_start ["_law_script"] []
  m_start : mg "_law_start" = some (.ref f_start)
  f_draw : Addr
  d_draw : FuncData
  F_draw : Fun K "_law_draw" "_law_draw" s_draw f_draw d_draw
  b_draw : Binds K d_draw ["_law_state", "_law_size"] []
  m_draw : mg "_law_draw" = some (.ref f_draw)
  f_low : Addr
  d_low : FuncData
  F_low : Fun K "_law_low" "_law_low" s_low f_low d_low
  b_low : Binds K d_low ["_law_up", "_law_down"] []
  m_low : mg "_law_low" = some (.ref f_low)
  f_plus : Addr
  d_plus : FuncData
  F_plus : Fun K "_law_plus" "_law_plus" s_plus f_plus d_plus
  b_plus : Binds K d_plus ["_law_one", "_law_two"] []
  m_plus : mg "_law_plus" = some (.ref f_plus)
  f_is : Addr
  d_is : FuncData
  F_is : Fun K "_law_is" "_law_is" s_is f_is d_is
  b_is : Binds K d_is ["_law_actual", "_law_pair"] []
  m_is : mg "_law_is" = some (.ref f_is)
  f_value : Addr
  d_value : FuncData
  F_value : Fun K "_law_value" "_law_value" s_value f_value d_value
  b_value : Binds K d_value ["_law_state", "_law_pair"] []
  m_value : mg "_law_value" = some (.ref f_value)
  f_names : Addr
  d_names : FuncData
  F_names : Fun K "_law_names" "_law_names" s_names f_names d_names
  b_names : Binds K d_names ["_law_state", "_law_count"] []
  m_names : mg "_law_names" = some (.ref f_names)
  f_table : Addr
  d_table : FuncData
  F_table : Fun K "_law_table" "_law_table" s_table f_table d_table
  b_table : Binds K d_table ["_law_state"] []
  m_table : mg "_law_table" = some (.ref f_table)
  f_given : Addr
  d_given : FuncData
  F_given : Fun K "_law_given" "_law_given" s_given f_given d_given
  b_given : Binds K d_given ["_law_state", "_law_table_here"] []
  m_given : mg "_law_given" = some (.ref f_given)
  f_agrees : Addr
  d_agrees : FuncData
  F_agrees : Fun K "_law_agrees" "_law_agrees" s_agrees f_agrees d_agrees
  b_agrees : Binds K d_agrees ["_law_told", "_law_table_here"] []
  m_agrees : mg "_law_agrees" = some (.ref f_agrees)
  f_near : Addr
  d_near : FuncData
  F_near : Fun K "_law_near" "_law_near" s_near f_near d_near
  b_near : Binds K d_near ["_law_state", "_law_table_here"] []
  m_near : mg "_law_near" = some (.ref f_near)
  f_OutOfRange_init : Addr
  d_OutOfRange_init : FuncData
  F_OutOfRange_init : Fun K "__init__" "OutOfRange.__init__" s_OutOfRange_init f_OutOfRange_init d_OutOfRange_init
  b_OutOfRange_init : Binds K d_OutOfRange_init ["self", "value"] []
  a_OutOfRange_init : PySem.W.findIn K (.ref f_OutOfRange) "__init__" = some (some (.ref f_OutOfRange_init))
  i_OutOfRange_init : PySem.W.isFn K (.ref f_OutOfRange_init) = true
  f_Ratio_init : Addr
  d_Ratio_init : FuncData
  F_Ratio_init : FunD K "__init__" "Ratio.__init__" (defArgs s_Ratio_init) (defBody s_Ratio_init) (defScope s_Ratio_init) [V.int 1] [] f_Ratio_init d_Ratio_init
  a_Ratio_init : PySem.W.findIn K (.ref f_Ratio) "__init__" = some (some (.ref f_Ratio_init))
  i_Ratio_init : PySem.W.isFn K (.ref f_Ratio_init) = true
  mk_Ratio : Mk K f_Ratio f_Ratio_init
  f_Ratio_top : Addr
  d_Ratio_top : FuncData
  F_Ratio_top : Fun K "top" "Ratio.top" s_Ratio_top f_Ratio_top d_Ratio_top
  b_Ratio_top : Binds K d_Ratio_top ["self"] []
  p0_Ratio_top : Addr
  p_Ratio_top : PropOf K f_Ratio "top" p0_Ratio_top f_Ratio_top
  f_Ratio_bottom : Addr
  d_Ratio_bottom : FuncData
  F_Ratio_bottom : Fun K "bottom" "Ratio.bottom" s_Ratio_bottom f_Ratio_bottom d_Ratio_bottom
  b_Ratio_bottom : Binds K d_Ratio_bottom ["self"] []
  p0_Ratio_bottom : Addr
  p_Ratio_bottom : PropOf K f_Ratio "bottom" p0_Ratio_bottom f_Ratio_bottom
  f_Ratio_eq : Addr
  d_Ratio_eq : FuncData
  F_Ratio_eq : Fun K "__eq__" "Ratio.__eq__" s_Ratio_eq f_Ratio_eq d_Ratio_eq
  b_Ratio_eq : Binds K d_Ratio_eq ["self", "other"] []
  a_Ratio_eq : PySem.W.findIn K (.ref f_Ratio) "__eq__" = some (some (.ref f_Ratio_eq))
  i_Ratio_eq : PySem.W.isFn K (.ref f_Ratio_eq) = true
  f_Standing_init : Addr
  d_Standing_init : FuncData
  F_Standing_init : Fun K "__init__" "Standing.__init__" s_Standing_init f_Standing_init d_Standing_init
  b_Standing_init : Binds K d_Standing_init ["self", "loads", "times"] []
  a_Standing_init : PySem.W.findIn K (.ref f_Standing) "__init__" = some (some (.ref f_Standing_init))
  i_Standing_init : PySem.W.isFn K (.ref f_Standing_init) = true
  mk_Standing : Mk K f_Standing f_Standing_init
  f_Standing_loads : Addr
  d_Standing_loads : FuncData
  F_Standing_loads : Fun K "loads" "Standing.loads" s_Standing_loads f_Standing_loads d_Standing_loads
  b_Standing_loads : Binds K d_Standing_loads ["self"] []
  p0_Standing_loads : Addr
  p_Standing_loads : PropOf K f_Standing "loads" p0_Standing_loads f_Standing_loads
  f_Standing_times : Addr
  d_Standing_times : FuncData
  F_Standing_times : Fun K "times" "Standing.times" s_Standing_times f_Standing_times d_Standing_times
  b_Standing_times : Binds K d_Standing_times ["self"] []
  p0_Standing_times : Addr
  p_Standing_times : PropOf K f_Standing "times" p0_Standing_times f_Standing_times
  f_Standing_eq : Addr
  d_Standing_eq : FuncData
  F_Standing_eq : Fun K "__eq__" "Standing.__eq__" s_Standing_eq f_Standing_eq d_Standing_eq
  b_Standing_eq : Binds K d_Standing_eq ["self", "other"] []
  a_Standing_eq : PySem.W.findIn K (.ref f_Standing) "__eq__" = some (some (.ref f_Standing_eq))
  i_Standing_eq : PySem.W.isFn K (.ref f_Standing_eq) = true
  oth_Ratio : OthC K f_Ratio f_Ratio_eq
  none_Ratio : NoNe K f_Ratio f_Ratio_eq
  oth_Standing : OthC K f_Standing f_Standing_eq
  none_Standing : NoNe K f_Standing f_Standing_eq
  kb_Standing_init_times_loads : KBn K d_Standing_init ["self", "loads", "times"] (0 + 1) ["times", "loads"] (fun us ws => us ++ permL [1, 0] ws) (fun vs zs => vs ++ permL [1, 0] zs)
  e1_Ratio_init : List Value
  v1_Ratio_init : Vals [V.int 1] e1_Ratio_init
  b1_Ratio_init : Binds K d_Ratio_init ["self", "top", "bottom"] e1_Ratio_init
  e2_Ratio_init : List Value
  v2_Ratio_init : Vals [] e2_Ratio_init
  b2_Ratio_init : Binds K d_Ratio_init ["self", "top", "bottom"] e2_Ratio_init
  ox_OutOfRange : OexC K f_OutOfRange
  ix_OutOfRange : PySem.W.findIn K (.ref f_OutOfRange) "__init__" = some (some (.ref f_OutOfRange_init))
  tx_OutOfRange : PySem.W.typeIn K (.ref f_OutOfRange_init) = some (.type "function")
  xf_OutOfRange : XfC K f_OutOfRange
  ec_OutOfRange : ExcC K f_OutOfRange
  no_OutOfRange_value : PySem.W.findIn K (.ref f_OutOfRange) "value" = some none
  g_gcd : mg "gcd" = some (.builtin "math.gcd")
  n_abs : mg "abs" = none
  n_dict : mg "dict" = none
  n_int : mg "int" = none
  n_isinstance : mg "isinstance" = none
  n_len : mg "len" = none
  n_list : mg "list" = none
  n_range : mg "range" = none
  n_sorted : mg "sorted" = none
/-! ### the law's own draws: a list of great numbers, a list of cells, a count -/
section
variable {P : Program} {w : World} {K : PySem.W.Frag} {mg : Str → Option Value} {base : Heap}
/-- the state's objects as they stand; G is what else is known, the state is none of it -/
structure DS (G H : Hp) (s b c : Addr) (gs cs : List Int) (n : Nat) : Prop where
  same : Same G H
  fs : G s = none
  fb : G b = none
  fc : G c = none
  hs : H s = some (.lst [.ref b, .ref c, .int (n : Int)])
  hb : H b = some (.lst (gs.map V.int))
  hc : H c = some (.lst (cs.map V.int))
  ne : b ≠ c
  pos : 0 < cs.length
theorem DS.sb {G H : Hp} {s b c : Addr} {gs cs : List Int} {n : Nat} (d : DS G H s b c gs cs n) : s ≠ b := ne_of d.hs d.hb (by cases gs <;> simp)
theorem DS.sc {G H : Hp} {s b c : Addr} {gs cs : List Int} {n : Nat} (d : DS G H s b c gs cs n) : s ≠ c := ne_of d.hs d.hc (by cases cs <;> simp)
/-- at most m draws were made -/
def DSt (G H : Hp) (s : Addr) (m : Nat) : Prop := ∃ (b c : Addr) (gs cs : List Int) (n : Nat), DS G H s b c gs cs n ∧ n ≤ m
theorem DSt.same {G H : Hp} {s : Addr} {m : Nat} (d : DSt G H s m) : Same G H := let ⟨_, _, _, _, _, d, _⟩ := d; d.same
theorem DSt.mono {G H : Hp} {s : Addr} {m m' : Nat} (d : DSt G H s m) (h : m ≤ m') : DSt G H s m' := let ⟨b, c, gs, cs, n, d, hn⟩ := d; ⟨b, c, gs, cs, n, d, Nat.le_trans hn h⟩
/-- a new object comes beside, known from then on -/
theorem DSt.new {G H : Hp} {s : Addr} {m : Nat} {p : Addr} {o : HO} (d : DSt G H s m) (hp : H p = none) : DSt (upd G p o) (upd H p o) s m := by
  obtain ⟨b, c, gs, cs, n, d, hn⟩ := d
  have n1 : s ≠ p := ne_of_none d.hs hp
  have n2 : b ≠ p := ne_of_none d.hb hp
  have n3 : c ≠ p := ne_of_none d.hc hp
  refine ⟨b, c, gs, cs, n, ⟨fun a u e => ?_, ?_, ?_, ?_, ?_, ?_, ?_, d.ne, d.pos⟩, hn⟩
  · by_cases ha : a = p
    · subst ha; rw [upd_same] at e ⊢; exact e
    · rw [upd_ne ha] at e ⊢; exact d.same a u e
  · rw [upd_ne n1]; exact d.fs
  · rw [upd_ne n2]; exact d.fb
  · rw [upd_ne n3]; exact d.fc
  · rw [upd_ne n1]; exact d.hs
  · rw [upd_ne n2]; exact d.hb
  · rw [upd_ne n3]; exact d.hc
/-- a known object changes -/
theorem DSt.put {G H : Hp} {s : Addr} {m : Nat} {p : Addr} {o u : HO} (d : DSt G H s m) (hp : G p = some u) : DSt (upd G p o) (upd H p o) s m := by
  obtain ⟨b, c, gs, cs, n, d, hn⟩ := d
  have n1 : s ≠ p := fun e => by rw [← e, d.fs] at hp; cases hp
  have n2 : b ≠ p := fun e => by rw [← e, d.fb] at hp; cases hp
  have n3 : c ≠ p := fun e => by rw [← e, d.fc] at hp; cases hp
  refine ⟨b, c, gs, cs, n, ⟨fun a v e => ?_, ?_, ?_, ?_, ?_, ?_, ?_, d.ne, d.pos⟩, hn⟩
  · by_cases ha : a = p
    · subst ha; rw [upd_same] at e ⊢; exact e
    · rw [upd_ne ha] at e ⊢; exact d.same a v e
  · rw [upd_ne n1]; exact d.fs
  · rw [upd_ne n2]; exact d.fb
  · rw [upd_ne n3]; exact d.fc
  · rw [upd_ne n1]; exact d.hs
  · rw [upd_ne n2]; exact d.hb
  · rw [upd_ne n3]; exact d.hc
/-- what else is known of the heap may be less, the rest may be more -/
theorem DSt.less {G G' H : Hp} {s : Addr} {m : Nat} (d : DSt G H s m) (h : Same G' G) : DSt G' H s m := by
  obtain ⟨b, c, gs, cs, n, d, hn⟩ := d
  have fr : ∀ a, G a = none → G' a = none := fun a e => h.free e
  exact ⟨b, c, gs, cs, n, ⟨h.trans d.same, fr _ d.fs, fr _ d.fb, fr _ d.fc, d.hs, d.hb, d.hc, d.ne, d.pos⟩, hn⟩
/-- all that stands behind stays; known is what was known -/
theorem DSt.on {G H H' : Hp} {s : Addr} {m : Nat} (d : DSt G H s m) (h : Same H H') : DSt G H' s m := by
  obtain ⟨b, c, gs, cs, n, d, hn⟩ := d
  exact ⟨b, c, gs, cs, n, ⟨d.same.trans h, d.fs, d.fb, d.fc, h _ _ d.hs, h _ _ d.hb, h _ _ d.hc, d.ne, d.pos⟩, hn⟩
theorem DSt.free {G H : Hp} {s : Addr} {m : Nat} {p : Addr} (d : DSt G H s m) (hp : H p = none) : G p = none := d.same.free hp

def spStart (K : PySem.W.Frag) : Sp := fun vs H Q _ => ∃ (a : Addr) (ns : List Int), vs = [.ref a] ∧ SqL K H a (ns.map V.int) ∧ ns.length ≤ 63 ∧ ∀ (s : Addr) (H' : Hp), DSt H H' s 0 → Q (.ref s) H'
def spDraw : Sp := fun vs H Q _ => ∃ (G : Hp) (s : Addr) (m : Nat) (sz : Int), vs = [.ref s, .int sz] ∧ DSt G H s m ∧ m < 1000000 ∧ 0 < sz ∧ sz < 2 ^ 200 ∧
  ∀ (r : Int) (H' : Hp), 0 ≤ r → r < sz → DSt G H' s (m + 1) → Q (.int r) H'

theorem take_more {α : Type} : ∀ {l : List α} {i : Nat} {x : α}, l[i]? = some x → l.take (i + 1) = l.take i ++ [x]
  | [], i, x, h => by simp at h
  | a :: l, 0, x, h => by
    have e : a = x := Option.some.inj h
    subst e
    rfl
  | a :: l, i + 1, x, h => by
    have ih := take_more (l := l) (i := i) (x := x) h
    show a :: l.take (i + 1) = a :: l.take i ++ [x]
    rw [ih]
    rfl
theorem pow_lt (c n : Int) (hc : 0 ≤ c) (hc2 : c < 2147483647) (hn : 0 ≤ n) (hn2 : n ≤ 1000001) : (c * 48271 + n * 69621 + 7).natAbs < 2 ^ 64 := by omega
theorem pow_lt2 (c n : Int) (hc : 0 ≤ c) (hc2 : c < 2147483647) (hn : 0 ≤ n) (hn2 : n ≤ 1000001) : (c * 16807 + n * 40692 + 13).natAbs < 2 ^ 64 := by omega

theorem cut1 (xs : List V) : cutV xs (some 1) none = xs.drop 1 := by
  unfold cutV
  rw [show HT.sIx xs.length 0 (some 1) = min 1 xs.length from HT.sIx_nat xs.length 0 1, HT.sIx_none]
  cases xs with
  | nil => rfl
  | cons x r =>
    rw [show min 1 (x :: r).length = 1 by
      rw [List.length_cons]
      omega]
    show (List.take ((x :: r).length - 1) r) = r
    rw [List.length_cons, Nat.add_sub_cancel]
    exact List.take_length
theorem big1 : (0 : Int) < 2147483647 := by decide
theorem big2 : (0 : Int) < 2147483629 := by decide
theorem ok_start (T : Txt K mg) : FnOk P w K mg base CX0 1 T.f_start T.d_start ["_law_script"] (spStart K) := by
  refine T.F_start.ok sc_start (fun vs H Q E h => ?_) (fun cdv A outer s H vs Q E hr h => ?_)
  · obtain ⟨a, ns, rfl, _⟩ := h
    rfl
  · obtain ⟨a, ns, rfl, hS, hlen, k⟩ := h
    refine ⟨_, (pss_one (ps_ret (pe_lst (pa_cons (pe_lc (own := [("_law_cell", 1)]) (g := gName 1) rfl sc_start.nd (pi_list (pv 0)) (blkOk_by (N := ["_law_script", "_law_cell"]) (sc := defScope s_start) (by decide +kernel)) (fun _ _ _ _ _ => pg_name (i := 1) sc_start.nd rfl (Or.inl rfl)) (fun _ _ _ _ _ => pts_one (pt_cmpR op_ge (pe_callB call_abs (by rfl) T.n_abs (by decide +kernel) (pa_cons (pv 1) pa_nil)) (pe_op op_pow pe_int pe_int) (nomark _))) (fun _ _ _ _ _ => (pe_callB call_abs (by rfl) T.n_abs (by decide +kernel) (pa_cons (pv 1) pa_nil)))) (pa_cons (pe_op op_cat (pe_callTy call_list_of (by rfl) T.n_list (by decide +kernel) (pa_cons (pv 0) pa_nil)) (pe_lst (pa_cons pe_int pa_nil))) (pa_cons pe_int pa_nil)))))), ?_⟩
    refine ⟨_, rfl, a, rfl, ⟨_, hS⟩, fun D hD => ?_⟩
    refine lc_list (K := K) (a := a) (xs := ns.map V.int) (fun i H1 => ∃ gs : List Int, gs.length ≤ i ∧ H1 D = some (.lst (gs.map V.int)) ∧ Same H H1) ⟨[], Nat.le_refl _, upd_same, same_upd hD⟩ (fun i H1 _ ⟨_, _, _, sm⟩ => sm.seq hS) ?_ ?_
    · intro i x H1 hi ⟨gs, hg, eD, sm⟩
      obtain ⟨z, rfl⟩ : ∃ z, x = V.int z := by
        rw [List.getElem?_map] at hi
        cases e : ns[i]? with
        | none =>
          rw [e] at hi
          cases hi
        | some z =>
          rw [e] at hi
          exact ⟨z, (Option.some.inj hi).symm⟩
      have hi63 : i < 63 := by
        have := (List.getElem?_eq_some_iff.mp hi).1
        rw [List.length_map] at this
        omega
      refine ⟨rfl, _, rfl, z, rfl, 10, 18, rfl, rfl, ⟨by decide, by decide, by decide⟩, _, _, rfl, rfl, _, rfl, ?_⟩
      refine ite2 (fun _ => ?_) fun _ => ?_
      · refine ⟨_, rfl, z, rfl, gs.map V.int, eD, small1000 (by rw [List.length_map]; omega), gs ++ [if z < 0 then -z else z], by rw [List.length_append]; exact Nat.add_le_add_right hg 1, ?_, same_mut sm hD⟩
        rw [upd_same, List.map_append]
        rfl
      · exact ⟨gs, Nat.le_succ_of_le hg, eD, sm⟩
    · intro H1 ⟨gs, hg, eD, sm⟩
      refine ⟨_, rfl, a, _, rfl, .inl (sm.seq hS), fun l hl => ?_⟩
      refine ⟨by show 1 ≤ sizeLine; decide, fun o ho => ?_⟩
      have nlo : l ≠ o := fun e => by
        rw [← e, upd_same] at ho
        cases ho
      refine ⟨l, o, _, _, rfl, rfl, by rw [upd_ne nlo]; exact upd_same, upd_same, Nat.le_of_lt (small1000 ?_), fun c hc => ?_⟩
      · rw [List.length_map]
        show ns.length + 1 ≤ 1000
        omega
      refine ⟨by show 3 ≤ sizeLine; decide, fun st hst => ?_⟩
      have eDo : (upd (upd H1 l (.lst (ns.map V.int))) o (.lst [V.int 5])) D = some (.lst (gs.map V.int)) := same_upd ho _ _ (same_upd hl _ _ eD)
      have nDc : D ≠ c := ne_of_none eDo hc
      have hcs := hst
      have ncst : c ≠ st := fun e => by
        rw [← e, upd_same] at hst
        cases hst
      have nDst : D ≠ st := ne_of_none (same_upd hc _ _ eDo) hst
      have sm4 : Same H (upd (upd (upd H1 l (.lst (ns.map V.int))) o (.lst [V.int 5])) c (.lst (ns.map V.int ++ [V.int 5]))) := ((sm.trans (same_upd hl)).trans (same_upd ho)).trans (same_upd hc)
      refine k st _ ⟨D, c, gs, ns ++ [5], 0, ⟨sm4.trans (same_upd hst), sm4.free hst, hD, ((sm.trans (same_upd hl)).trans (same_upd ho)).free hc, upd_same, ?_, ?_, nDc, by rw [List.length_append]; exact Nat.succ_pos _⟩, Nat.le_refl _⟩
      · rw [upd_ne nDst]
        exact same_upd hc _ _ eDo
      · rw [upd_ne ncst, upd_same, List.map_append]
        rfl

theorem ok_draw (T : Txt K mg) : FnOk P w K mg base CX0 1 T.f_draw T.d_draw ["_law_state", "_law_size"] spDraw := by
  refine T.F_draw.ok sc_draw (fun vs H Q E h => ?_) (fun cdv A outer s H vs Q E hr h => ?_)
  · obtain ⟨G, a, m, sz, rfl, _⟩ := h
    rfl
  · obtain ⟨G, a, m, sz, rfl, ⟨b0, c, gs0, cs, n, d0, hn⟩, hm, hs0, hs2, k⟩ := h
    refine ⟨_, (pss_cons (ps_augS (pv 0) pe_int get_list pe_int ip_add set_list)
    (C8.pss_cut (ps_while PassesOwn.never (PW.pt (pw_and (pt_cmpR (op_neD hr.units) (pe_ix ix_list (pv 0) pe_int (fun _ _ => rfl)) (pe_lst pa_nil) (nomark _)) (pw_and1 (pt_cmpR op_eq (pe_ix ix_list (pe_ix ix_list (pv 0) pe_int (fun _ _ => rfl)) pe_int (fun _ _ => rfl)) pe_int (nomark _)))))
      (pss_one (ps_asg (pe_slice sl_list (pe_ix ix_list (pv 0) pe_int (fun _ _ => rfl)) (po_some pe_int) po_none) (pg_sub (pv 0) pe_int set_list))))
    (pss_cons (ps_if (pt_cmpR (op_neD hr.units) (pe_ix ix_list (pv 0) pe_int (fun _ _ => rfl)) (pe_lst pa_nil) (nomark _))
      (pss_cons (ps_set (i := 2) sc_draw.nd rfl (Or.inl rfl) (pe_op op_mod (pe_callTy call_int1 (by rfl) T.n_int (by decide +kernel) (pa_cons (pe_ix ix_list (pe_ix ix_list (pv 0) pe_int (fun _ _ => rfl)) pe_int (fun _ _ => rfl)) pa_nil)) (pv 1)))
    (pss_cons (ps_asg (pe_op op_fdivW (pe_ix ix_list (pe_ix ix_list (pv 0) pe_int (fun _ _ => rfl)) pe_int (fun _ _ => rfl)) (pv 1)) (pg_sub (pe_ix ix_list (pv 0) pe_int (fun _ _ => rfl)) pe_int set_list))
    (pss_one (ps_ret (pv 2)))))
      pss_nil)
    (pss_cons (ps_set (i := 3) sc_draw.nd rfl (Or.inl rfl) (pe_op op_mod (pe_callTy call_int1 (by rfl) T.n_int (by decide +kernel) (pa_cons (pe_ix ix_list (pe_ix ix_list (pv 0) pe_int (fun _ _ => rfl)) (pe_op op_mod (pe_callTy call_int1 (by rfl) T.n_int (by decide +kernel) (pa_cons (pe_ix ix_list (pv 0) pe_int (fun _ _ => rfl)) pa_nil)) (pe_callB call_len_seq (by rfl) T.n_len (by decide +kernel) (pa_cons (pe_ix ix_list (pv 0) pe_int (fun _ _ => rfl)) pa_nil))) (fun _ _ => rfl)) pa_nil)) pe_int))
    (pss_cons (ps_set (i := 4) sc_draw.nd rfl (Or.inl rfl) (pe_op op_mod (pe_callTy call_int1 (by rfl) T.n_int (by decide +kernel) (pa_cons (pe_op op_pow (pe_op op_add (pe_op op_add (pe_op op_mul (pv 3) pe_int) (pe_op op_mul (pe_ix ix_list (pv 0) pe_int (fun _ _ => rfl)) pe_int)) pe_int) pe_int) pa_nil)) pe_int))
    (pss_one (ps_ret (pe_op op_mod (pe_op op_mod (pe_callTy call_int1 (by rfl) T.n_int (by decide +kernel) (pa_cons (pe_op op_pow (pe_op op_add (pe_op op_add (pe_op op_mul (pv 4) pe_int) (pe_op op_mul (pe_ix ix_list (pv 0) pe_int (fun _ _ => rfl)) pe_int)) pe_int) pe_int) pa_nil)) pe_int) (pv 1))))))))), ?_⟩
    -- the count
    refine ⟨_, rfl, a, _, 2, _, rfl, rfl, SqL.of d0.hs, by decide, rfl, (n : Int), 1, rfl, rfl, a, _, 2, 2, rfl, rfl, d0.hs, rfl, ?_⟩
    have d1 : DS G (upd H a (.lst [V.ref b0, V.ref c, V.int ((n + 1 : Nat) : Int)])) a b0 c gs0 cs (n + 1) :=
      ⟨same_mut d0.same d0.fs, d0.fs, d0.fb, d0.fc, upd_same, by rw [upd_ne d0.sb.symm]; exact d0.hb, by rw [upd_ne d0.sc.symm]; exact d0.hc, d0.ne, d0.pos⟩
    -- the noughts ahead go
    refine ⟨fun σ H2 => σ = [some (.ref a), some (.int sz), none, none, none] ∧ ∃ (b : Addr) (gs : List Int), DS G H2 a b c gs cs (n + 1), ?_, ?_⟩
    · refine ⟨fun j σ H2 => σ = [some (.ref a), some (.int sz), none, none, none] ∧ ∃ (b : Addr) (gs : List Int), gs.length = j ∧ DS G H2 a b c gs cs (n + 1), ⟨_, rfl, b0, gs0, rfl, d1⟩, ?_⟩
      rintro j σ H2 ⟨rfl, b, gs, rfl, d⟩
      refine ⟨_, rfl, a, _, 0, _, rfl, rfl, SqL.of d.hs, rfl, Nat.zero_le _, fun p hp => ?_⟩
      have sp : Same H2 (upd H2 p (.lst [])) := same_upd hp
      have d2 : DS G (upd H2 p (.lst [])) a b c gs cs (n + 1) := ⟨d.same.trans sp, d.fs, d.fb, d.fc, sp _ _ d.hs, sp _ _ d.hb, sp _ _ d.hc, d.ne, d.pos⟩
      cases gs with
      | nil =>
        refine ⟨.list [], .list [], .lst (SqL.of d2.hb) .nil, .lst (SqL.of upd_same) .nil, shaped_ints [], shaped_ints [], false, by simp [PyData.eqv, PyData.eqvAll], iteF (iteF (⟨rfl, b, [], d2⟩))⟩
      | cons g r =>
        refine ⟨.list ((g :: r).map PyData.int), .list [], .lst (SqL.of d2.hb) (dp_ints _), .lst (SqL.of upd_same) .nil, shaped_ints _, shaped_ints [], true, by simp [PyData.eqv, PyData.eqvAll], iteT ?_⟩
        refine ⟨_, rfl, a, _, 0, _, rfl, rfl, SqL.of d2.hs, rfl, b, _, 0, .int g, rfl, rfl, SqL.of d2.hb, at0, rfl, _, rfl, ite2 (fun _ => ?_) fun _ => ⟨rfl, b, _, d2⟩⟩
        -- state[0] = state[0][1:]
        refine ⟨fun σ H3 => σ = [some (.ref a), some (.int sz), none, none, none] ∧ ∃ (b : Addr) (gs : List Int), gs.length = r.length ∧ DS G H3 a b c gs cs (n + 1), fun σ' H' h' => ⟨r.length, Nat.lt_succ_self _, h'⟩, ?_⟩
        refine ⟨_, rfl, a, _, 0, _, rfl, rfl, SqL.of d2.hs, rfl, 1, rfl, b, _, rfl, SqL.of d2.hb, fun q hq => ?_⟩
        have n1 : a ≠ q := ne_of_none d2.hs hq
        have n3 : c ≠ q := ne_of_none d2.hc hq
        refine ⟨_, rfl, a, _, 0, 0, rfl, rfl, by rw [upd_ne n1]; exact d2.hs, rfl, rfl, q, r, rfl, ?_⟩
        exact ⟨same_mut (d2.same.trans (same_upd hq)) d2.fs, d2.fs, d2.same.free hq, d2.fc, upd_same, by rw [upd_ne n1.symm, upd_same, cut1]; rfl, by rw [upd_ne d2.sc.symm, upd_ne n3]; exact d2.hc, n3.symm, d2.pos⟩
    · rintro σ H2 ⟨rfl, b, gs, d⟩
      refine ⟨_, rfl, a, _, 0, _, rfl, rfl, SqL.of d.hs, rfl, Nat.zero_le _, fun p hp => ?_⟩
      have sp : Same H2 (upd H2 p (.lst [])) := same_upd hp
      have d2 : DS G (upd H2 p (.lst [])) a b c gs cs (n + 1) := ⟨d.same.trans sp, d.fs, d.fb, d.fc, sp _ _ d.hs, sp _ _ d.hb, sp _ _ d.hc, d.ne, d.pos⟩
      cases gs with
      | cons g r =>
        refine ⟨.list ((g :: r).map PyData.int), .list [], .lst (SqL.of d2.hb) (dp_ints _), .lst (SqL.of upd_same) .nil, shaped_ints _, shaped_ints [], true, by simp [PyData.eqv, PyData.eqvAll], iteT ?_⟩
        refine ⟨_, rfl, a, _, 0, _, rfl, rfl, SqL.of d2.hs, rfl, b, _, 0, .int g, rfl, rfl, SqL.of d2.hb, at0, .inl ⟨g, rfl, ?_⟩⟩
        refine ⟨_, rfl, g, sz, rfl, rfl, hs0, ?_⟩
        refine ⟨_, rfl, a, _, 0, _, rfl, rfl, SqL.of d2.hs, rfl, b, _, 0, .int g, rfl, rfl, SqL.of d2.hb, at0, _, rfl, g, sz, rfl, rfl, wide_div (b := 200) hs0 (by omega) (by decide) (by decide), ?_⟩
        refine ⟨_, rfl, a, _, 0, _, rfl, rfl, SqL.of d2.hs, rfl, b, _, 0, 0, rfl, rfl, d2.hb, ix0 (Nat.succ_pos _), ?_⟩
        refine ⟨_, rfl, k _ _ (Int.emod_nonneg _ (by omega)) (Int.emod_lt_of_pos _ hs0) ⟨b, c, g / sz :: r, cs, n + 1, ?_, Nat.succ_le_succ hn⟩⟩
        exact ⟨same_mut d2.same d2.fb, d2.fs, d2.fb, d2.fc, by rw [upd_ne d2.sb]; exact d2.hs, upd_same, by rw [upd_ne d2.ne.symm]; exact d2.hc, d2.ne, d2.pos⟩
      | nil =>
        refine ⟨.list [], .list [], .lst (SqL.of d2.hb) .nil, .lst (SqL.of upd_same) .nil, shaped_ints [], shaped_ints [], false, by simp [PyData.eqv, PyData.eqvAll], iteF ?_⟩
        have hl : (0 : Int) < (cs.length : Int) := by have := d.pos; omega
        have i0 : 0 ≤ ((n + 1 : Nat) : Int) % (cs.length : Int) := Int.emod_nonneg _ (by omega)
        have i1 : ((n + 1 : Nat) : Int) % (cs.length : Int) < (cs.length : Int) := Int.emod_lt_of_pos _ hl
        obtain ⟨j, ej⟩ : ∃ j : Nat, ((n + 1 : Nat) : Int) % (cs.length : Int) = (j : Int) := ⟨(((n + 1 : Nat) : Int) % (cs.length : Int)).toNat, by omega⟩
        have hj : j < cs.length := by omega
        refine ⟨_, rfl, a, _, 1, _, rfl, rfl, SqL.of d2.hs, rfl, _, rfl, a, _, 2, _, rfl, rfl, SqL.of d2.hs, rfl, .inl ⟨_, rfl, ?_⟩⟩
        refine ⟨_, rfl, a, _, 1, _, rfl, rfl, SqL.of d2.hs, rfl, c, _, rfl, .inl (SqL.of d2.hc), _, _, rfl, rfl, by rw [List.length_map]; exact hl, ?_⟩
        refine ⟨c, _, _, .int cs[j], rfl, rfl, SqL.of d2.hc, by rw [List.length_map]; exact at_of ej (by rw [List.getElem?_map, List.getElem?_eq_getElem hj]; rfl), .inl ⟨_, rfl, _, _, rfl, rfl, big1, ?_⟩⟩
        have c0 : 0 ≤ cs[j] % 2147483647 := Int.emod_nonneg _ (by decide)
        have c1 : cs[j] % 2147483647 < 2147483647 := Int.emod_lt_of_pos _ (by decide)
        refine ⟨_, rfl, _, _, rfl, rfl, .inr ⟨by decide, by decide⟩, _, rfl, a, _, 2, _, rfl, rfl, SqL.of d2.hs, rfl, _, _, rfl, rfl, .inr ⟨by decide, by decide⟩, _, _, rfl, rfl, _, _, rfl, rfl, _, _, rfl, rfl, ⟨by decide, by decide, pow_lt _ _ c0 c1 (by omega) (by omega)⟩, .inl ⟨_, rfl, _, _, rfl, rfl, big1, ?_⟩⟩
        have e0 : ∀ z : Int, 0 ≤ z % 2147483647 := fun z => Int.emod_nonneg _ (by decide)
        have e1 : ∀ z : Int, z % 2147483647 < 2147483647 := fun z => Int.emod_lt_of_pos _ (by decide)
        refine ⟨_, rfl, _, _, rfl, rfl, .inr ⟨by decide, by decide⟩, _, rfl, a, _, 2, _, rfl, rfl, SqL.of d2.hs, rfl, _, _, rfl, rfl, .inr ⟨by decide, by decide⟩, _, _, rfl, rfl, _, _, rfl, rfl, _, _, rfl, rfl, ⟨by decide, by decide, pow_lt2 _ _ (e0 _) (e1 _) (by omega) (by omega)⟩, .inl ⟨_, rfl, _, _, rfl, rfl, big2, ?_⟩⟩
        refine ⟨_, rfl, _, sz, rfl, rfl, hs0, ?_⟩
        exact k _ _ (Int.emod_nonneg _ (by omega)) (Int.emod_lt_of_pos _ hs0) ⟨b, c, [], cs, n + 1, d2, Nat.succ_le_succ hn⟩
end

/-! ### ratios -/
section
variable {P : Program} {w : World} {K : PySem.W.Frag} {mg : Str → Option Value} {base : Heap}
/-- a ratio's attributes -/
def rf (t b : Int) : List (Str × V) := [("_top", .int t), ("_bottom", .int b)]
theorem rf_top (t b : Int) : (rf t b).lookup ("_top" : Str) = some (.int t) := by simp [rf, List.lookup]
theorem nTB : (("_bottom" : Str) == ("_top" : Str)) = false := by decide +kernel
theorem nBT : (("_top" : Str) == ("_bottom" : Str)) = false := by decide +kernel
theorem rf_bottom (t b : Int) : (rf t b).lookup ("_bottom" : Str) = some (.int b) := by simp [rf, List.lookup, nTB]
def RatAt (C : Addr) (H : Hp) (p : Addr) (t b : Int) : Prop := ∃ dx, H p = some (.ins C dx (rf t b))
/-- the divisor -/
def dvs (t b : Int) : Int := if b < 0 then -((Nat.gcd t.natAbs b.natAbs : Nat) : Int) else ((Nat.gcd t.natAbs b.natAbs : Nat) : Int)
def lowT (t b : Int) : Int := t.fdiv (dvs t b)
def lowB (t b : Int) : Int := b.fdiv (dvs t b)
def BIG (z : Int) : Prop := z.natAbs < 2 ^ 8000
theorem dvs_ne {t b : Int} (h : b ≠ 0) : dvs t b ≠ 0 := by
  have hg : 0 < Nat.gcd t.natAbs b.natAbs := Nat.gcd_pos_of_pos_right _ (by omega)
  unfold dvs
  split <;> omega
theorem dvs_le {t b : Int} (h : b ≠ 0) : (dvs t b).natAbs ≤ b.natAbs := by
  have hg : Nat.gcd t.natAbs b.natAbs ≤ b.natAbs := Nat.le_of_dvd (by omega) (Nat.gcd_dvd_right _ _)
  unfold dvs
  split <;> omega
/-- Ratio(t, b), b not 0 -/
def spInit (C : Addr) : Sp := fun vs H Q _ => ∃ (p dx : Addr) (t b : Int), vs = [.ref p, .int t, .int b] ∧ H p = some (.ins C dx []) ∧ b ≠ 0 ∧ BIG b ∧ ∀ H', RatAt C H' p (lowT t b) (lowB t b) → (∀ a o, H a = some o → a ≠ p → H' a = some o) → Q .non H'
theorem ok_init (T : Txt K mg) : FnOk P w K mg base CX0 1 T.f_Ratio_init T.d_Ratio_init ["self", "top", "bottom"] (spInit T.f_Ratio) := by
  refine T.F_Ratio_init.ok sc_Ratio_init (fun vs H Q E h => ?_) (fun cdv A outer s H vs Q E hr h => ?_)
  · obtain ⟨p, dx, t, b, rfl, _⟩ := h
    rfl
  · obtain ⟨p, dx, t, b, rfl, hp, hb, hB, k⟩ := h
    refine ⟨_, PSs.nox (pss_cons (ps_if (pt_cmpR op_eq (pv 2) pe_int (nomark _))
      (pss_one ps_never)
      pss_nil)
    (pss_cons (ps_set (i := 3) sc_Ratio_init.nd rfl (Or.inl rfl) (pe_callBfun cr_gcd rfl T.g_gcd (pa_cons (pv 1) (pa_cons (pv 2) pa_nil))))
    (C8.pss_cut (ps_if (pt_cmpR op_lt (pv 2) pe_int (nomark _))
      (pss_one (ps_set (i := 3) sc_Ratio_init.nd rfl (Or.inl rfl) (pe_un un_neg (pv 3))))
      pss_nil)
    (pss_cons (ps_fld (pv 0) (pe_op op_fdivZ (pv 1) (pv 3)) rfl)
    (pss_one (ps_fld (pv 0) (pe_op op_fdivZ (pv 2) (pv 3)) rfl)))))), ?_⟩
    refine ⟨_, rfl, rfl, _, rfl, ite2 (fun h0 => ?_) fun _ => ?_⟩
    · have e : V.int b = V.int 0 := of_decide_eq_true h0
      injection e with e
      exact absurd e hb
    refine ⟨_, rfl, _, rfl, t, b, rfl, ?_⟩
    refine ⟨fun σ H' => σ = [some (.ref p), some (.int t), some (.int b), some (.int (dvs t b))] ∧ H' = H, ?_, ?_⟩
    · refine ⟨_, rfl, b, 0, rfl, rfl, _, rfl, ite2 (fun h0 => ?_) fun h0 => ?_⟩
      · have h0' : b < 0 := of_decide_eq_true h0
        refine ⟨_, rfl, _, rfl, ?_, rfl⟩
        unfold dvs
        rw [if_pos h0']
        rfl
      · have h0' : ¬ b < 0 := fun q => h0 (decide_eq_true q)
        refine ⟨?_, rfl⟩
        unfold dvs
        rw [if_neg h0']
        rfl
    · rintro σ H' ⟨rfl, rfl⟩
      have hz : CDivZ t (dvs t b) := cdivZ (dvs_ne hb) (Nat.lt_of_le_of_lt (dvs_le hb) hB)
      have hz2 : CDivZ b (dvs t b) := cdivZ (dvs_ne hb) (Nat.lt_of_le_of_lt (dvs_le hb) hB)
      refine ⟨_, rfl, _, rfl, t, _, rfl, rfl, hz, _, rfl, p, T.f_Ratio, dx, [], rfl, hp, T.cl_Ratio, T.na_Ratio_top, (by show 0 < 1000; decide), ?_⟩
      refine ⟨_, rfl, _, rfl, b, _, rfl, rfl, hz2, _, rfl, p, T.f_Ratio, dx, _, rfl, upd_same, T.cl_Ratio, T.na_Ratio_bottom, (by show 1 < 1000; decide), ?_⟩
      refine k _ ⟨dx, Eq.trans upd_same ?_⟩ fun a o e ha => by rw [upd_ne ha, upd_ne ha]; exact e
      show some (HO.ins T.f_Ratio dx (if ("_top" : Str) = "_bottom" then _ else _)) = _
      rw [if_neg (by decide +kernel)]
      rfl
/-- the properties -/
def spTop (C : Addr) : Sp := fun vs H Q _ => ∃ (p : Addr) (t b : Int), vs = [.ref p] ∧ RatAt C H p t b ∧ Q (.int t) H
def spBottom (C : Addr) : Sp := fun vs H Q _ => ∃ (p : Addr) (t b : Int), vs = [.ref p] ∧ RatAt C H p t b ∧ Q (.int b) H
def sgnI (t : Int) : Int := if t < 0 then -1 else if 0 < t then 1 else 0
def spSign (C : Addr) : Sp := fun vs H Q _ => ∃ (p : Addr) (t b : Int), vs = [.ref p] ∧ RatAt C H p t b ∧ Q (.int (sgnI t)) H
theorem ok_top (T : Txt K mg) : FnOk P w K mg base CX0 1 T.f_Ratio_top T.d_Ratio_top ["self"] (spTop T.f_Ratio) := by
  refine T.F_Ratio_top.ok sc_Ratio_top (fun vs H Q E h => ?_) (fun cdv A outer s H vs Q E hr h => ?_)
  · obtain ⟨p, t, b, rfl, _⟩ := h
    rfl
  · obtain ⟨p, t, b, rfl, ⟨dx, hp⟩, k⟩ := h
    refine ⟨_, (pss_one (ps_ret (pe_fld (pv 0) rfl))), ?_⟩
    exact ⟨_, rfl, p, T.f_Ratio, dx, _, _, rfl, hp, T.cl_Ratio, T.na_Ratio_top, rf_top _ _, k⟩
theorem ok_bottom (T : Txt K mg) : FnOk P w K mg base CX0 1 T.f_Ratio_bottom T.d_Ratio_bottom ["self"] (spBottom T.f_Ratio) := by
  refine T.F_Ratio_bottom.ok sc_Ratio_bottom (fun vs H Q E h => ?_) (fun cdv A outer s H vs Q E hr h => ?_)
  · obtain ⟨p, t, b, rfl, _⟩ := h
    rfl
  · obtain ⟨p, t, b, rfl, ⟨dx, hp⟩, k⟩ := h
    refine ⟨_, (pss_one (ps_ret (pe_fld (pv 0) rfl))), ?_⟩
    exact ⟨_, rfl, p, T.f_Ratio, dx, _, _, rfl, hp, T.cl_Ratio, T.na_Ratio_bottom, rf_bottom _ _, k⟩
end

/-! ### texts of numbers and of ratios -/
def dec (n : Int) : Str := Str.ofString (toString n)
theorem tl_dec (n : Int) : TL.tl (dec n) = if n < 0 then 45 :: TL.numL n.natAbs else TL.numL n.natAbs := by
  cases n with
  | ofNat m => exact TL.tl_num m
  | negSucc m =>
    rw [if_pos (Int.negSucc_lt_zero m)]
    show TL.tl (Str.ofString ("-" ++ Nat.repr (m + 1))) = 45 :: TL.numL (m + 1)
    have h := TL.tl_num (m + 1)
    rw [TL.tl_ofString] at h ⊢
    rw [String.toList_append, List.map_append]
    have h' : (Nat.repr (m + 1)).toList.map Char.toNat = TL.numL (m + 1) := h
    rw [h']
    rfl
theorem dec_nn {n : Int} (h : ¬ n < 0) : TL.tl (dec n) = TL.numL n.natAbs := (tl_dec n).trans (if_neg h)
theorem dec_neg {n : Int} (h : n < 0) : TL.tl (dec n) = 45 :: TL.numL n.natAbs := (tl_dec n).trans (if_pos h)
theorem dec_len {n : Int} {k : Nat} (hk : 0 < k) (h : n.natAbs < 10 ^ k) : (dec n).length ≤ k + 1 := by
  rw [TL.len_tl, tl_dec]
  have := TL.numL_len hk h
  split
  · rw [List.length_cons]; omega
  · omega
/-- a number as it may stand before or behind a stroke -/
def numOk (l : List Nat) : Bool := decide (1 ≤ l.length ∧ l.length ≤ 9) && (!(decide (l.head? = some 48) && !decide (l = [48])) && l.all fun c => decide (48 ≤ c ∧ c ≤ 57))
def stripL : List Nat → List Nat
  | [] => []
  | c :: r => if c = 45 then r else c :: r
def negL (l : List Nat) : Bool := decide (l.head? = some 45)
def frontL (l : List Nat) : List Nat := (stripL l).takeWhile fun c => c != 47
def backL (l : List Nat) : List Nat := match (stripL l).dropWhile fun c => c != 47 with
  | [] => [49]
  | _ :: b => b
def goodL (l : List Nat) : Bool := numOk (frontL l) && (numOk (backL l) && !decide (backL l = [48]))
def topL (l : List Nat) : Int := if negL l then -((NumText.digitsVal (frontL l) : Nat) : Int) else ((NumText.digitsVal (frontL l) : Nat) : Int)
def botL (l : List Nat) : Int := ((NumText.digitsVal (backL l) : Nat) : Int)
theorem numOk_len {l : List Nat} (h : numOk l = true) : 1 ≤ l.length ∧ l.length ≤ 9 := of_decide_eq_true (Bool.and_eq_true_iff.mp h).1
theorem numOk_all {l : List Nat} (h : numOk l = true) : NumText.AllDigits l := fun c hc => of_decide_eq_true (List.all_eq_true.mp (Bool.and_eq_true_iff.mp (Bool.and_eq_true_iff.mp h).2).2 c hc)
theorem fold_ge (l : List Nat) : ∀ a : Nat, a ≤ l.foldl (fun acc c => acc * 10 + (c - 48)) a := by
  induction l with
  | nil => intro a; exact Nat.le_refl _
  | cons c r ih =>
    intro a
    have := ih (a * 10 + (c - 48))
    show a ≤ r.foldl _ (a * 10 + (c - 48))
    omega
theorem fold_lt (l : List Nat) (h : NumText.AllDigits l) : ∀ a : Nat, l.foldl (fun acc c => acc * 10 + (c - 48)) a < (a + 1) * 10 ^ l.length := by
  induction l with
  | nil => intro a; simp
  | cons c r ih =>
    intro a
    have hc := h.head
    have h1 := ih h.tail (a * 10 + (c - 48))
    show r.foldl _ (a * 10 + (c - 48)) < (a + 1) * 10 ^ (r.length + 1)
    have h2 : (a * 10 + (c - 48) + 1) * 10 ^ r.length ≤ ((a + 1) * 10) * 10 ^ r.length := Nat.mul_le_mul_right _ (by omega)
    have h3 : ((a + 1) * 10) * 10 ^ r.length = (a + 1) * 10 ^ (r.length + 1) := by rw [Nat.pow_succ, Nat.mul_assoc, Nat.mul_comm 10]
    omega
theorem val_lt {l : List Nat} (h : numOk l = true) : NumText.digitsVal l < 10 ^ 9 := by
  have h1 := fold_lt l (numOk_all h) 0
  have h2 : (0 + 1) * 10 ^ l.length ≤ 10 ^ 9 := by
    rw [Nat.zero_add, Nat.one_mul]
    exact Nat.pow_le_pow_right (by decide) (numOk_len h).2
  exact Nat.lt_of_lt_of_le h1 h2
theorem val_ne {l : List Nat} (h : numOk l = true) (h0 : l ≠ [48]) : NumText.digitsVal l ≠ 0 := by
  cases l with
  | nil => exact absurd (numOk_len h).1 (by decide)
  | cons c r =>
    have hc := (numOk_all h).head
    have h1 : c ≠ 48 := fun e => by
      have h2 := (Bool.and_eq_true_iff.mp (Bool.and_eq_true_iff.mp h).2).1
      rw [e, decide_eq_true (show (48 :: r).head? = some 48 from rfl), Bool.true_and, Bool.not_not] at h2
      exact h0 (by rw [e]; exact of_decide_eq_true h2)
    have h3 := fold_ge r (0 * 10 + (c - 48))
    show r.foldl _ (0 * 10 + (c - 48)) ≠ 0
    omega
theorem bot_ne {l : List Nat} (h : goodL l = true) : botL l ≠ 0 := by
  have h1 := (Bool.and_eq_true_iff.mp (Bool.and_eq_true_iff.mp h).2)
  have h2 : backL l ≠ [48] := by simpa using h1.2
  have := val_ne h1.1 h2
  unfold botL
  omega
theorem bot_big {l : List Nat} (h : goodL l = true) : BIG (botL l) := by
  have h1 := (Bool.and_eq_true_iff.mp (Bool.and_eq_true_iff.mp h).2)
  have := val_lt h1.1
  show (botL l).natAbs < 2 ^ 8000
  unfold botL
  rw [Int.natAbs_natCast]
  exact Nat.lt_of_lt_of_le this (by decide +kernel)
theorem reads {l : List Nat} (h : numOk l = true) : PySem.intText? ⟨l.toArray⟩ = some ((NumText.digitsVal l : Nat) : Int) := by
  have hl := numOk_len h
  have := PySem.intText_digits (x := ⟨l.toArray⟩) (by show NumText.AllDigits l; exact numOk_all h) (by show l ≠ []; intro e; rw [e] at hl; exact absurd hl.1 (by decide)) (by show l.toArray.size ≤ 4300; rw [List.size_toArray]; omega)
  exact this
/-! the text's methods -/
def dash : Str := "-"
def stroke : Str := "/"
theorem tl_dash : TL.tl dash = [45] := by decide +kernel
theorem tl_stroke : TL.tl stroke = [47] := by decide +kernel
theorem dash_eq : dash = ⟨#[45]⟩ := TL.ext_tl tl_dash
theorem strip_eq (z : Str) : Txt.removeprefix z dash = ⟨(stripL (TL.tl z)).toArray⟩ := by
  rw [← TL.mk_tl z, dash_eq]
  generalize TL.tl z = l
  cases l with
  | nil => rfl
  | cons c r =>
    unfold Txt.removeprefix stripL
    by_cases h : c = 45
    · subst h
      have e : Builtin.Str.subAt ⟨(45 :: r).toArray⟩ ⟨#[45]⟩ 0 = true := by
        show ((45 :: r).toArray.extract 0 (0 + 1) == #[45]) = true
        simp
      rw [e, if_pos rfl]
      show (if ((⟨(45 :: r).toArray⟩ : Str).length - 1 == (⟨(45 :: r).toArray⟩ : Str).length) = true then _ else _) = _
      rw [if_neg (by
        show ¬ (((45 :: r).toArray.size - 1 == (45 :: r).toArray.size) = true)
        rw [List.size_toArray, List.length_cons]
        simp)]
      refine TL.ext_tl ?_
      show TL.tl (Builtin.Str.strSub ⟨(45 :: r).toArray⟩ 1 (⟨(45 :: r).toArray⟩ : Str).length) = _
      rw [TL.tl_strSub_end]
      rfl
    · have e : Builtin.Str.subAt ⟨(c :: r).toArray⟩ ⟨#[45]⟩ 0 = false := by
        show ((c :: r).toArray.extract 0 (0 + 1) == #[45]) = false
        simp [h]
      rw [e, if_neg Bool.false_ne_true]
      show (⟨(c :: r).toArray⟩ : Str) = _
      simp [h]
theorem starts_eq (z : Str) : Txt.startswith z dash = negL (TL.tl z) := by
  rw [← TL.mk_tl z, dash_eq]
  generalize TL.tl z = l
  unfold Txt.startswith negL
  cases l with
  | nil => rfl
  | cons c r =>
    have e1 : decide (0 + (⟨#[45]⟩ : Str).length ≤ (⟨(c :: r).toArray⟩ : Str).length) = true := by
      refine decide_eq_true ?_
      show 0 + 1 ≤ (c :: r).toArray.size
      rw [List.size_toArray, List.length_cons]
      omega
    rw [e1, Bool.true_and]
    show ((c :: r).toArray.extract 0 (0 + 1) == #[45]) = decide (some c = some 45)
    by_cases h : c = 45
    · subst h; simp
    · simp [h]
theorem span_none {l : List Nat} (h : 47 ∉ l) : l.takeWhile (fun c => c != 47) = l ∧ l.dropWhile (fun c => c != 47) = [] := by
  induction l with
  | nil => exact ⟨rfl, rfl⟩
  | cons c r ih =>
    have h1 : c ≠ 47 := fun e => h (by rw [e]; exact List.mem_cons_self)
    have := ih fun q => h (List.mem_cons_of_mem _ q)
    rw [List.takeWhile_cons, List.dropWhile_cons]
    simp [h1, this]
theorem span_at {f b : List Nat} (h : 47 ∉ f) : (f ++ 47 :: b).takeWhile (fun c => c != 47) = f ∧ (f ++ 47 :: b).dropWhile (fun c => c != 47) = 47 :: b := by
  induction f with
  | nil => exact ⟨by simp, by simp⟩
  | cons c r ih =>
    have h1 : c ≠ 47 := fun e => h (by rw [e]; exact List.mem_cons_self)
    have := ih fun q => h (List.mem_cons_of_mem _ q)
    rw [List.cons_append, List.takeWhile_cons, List.dropWhile_cons]
    simp [h1, this]
/-- the text cut at its first stroke -/
theorem cut_eq (l : List Nat) : (∃ b, l.dropWhile (fun c => c != 47) = 47 :: b ∧ Txt.partition ⟨l.toArray⟩ stroke = (⟨(l.takeWhile fun c => c != 47).toArray⟩, stroke, ⟨b.toArray⟩)) ∨
    (l.dropWhile (fun c => c != 47) = [] ∧ l.takeWhile (fun c => c != 47) = l ∧ Txt.partition ⟨l.toArray⟩ stroke = (⟨l.toArray⟩, Str.empty, Str.empty)) := by
  by_cases h : 47 ∈ l
  · obtain ⟨f, b, e, hf⟩ : ∃ f b, l = f ++ 47 :: b ∧ 47 ∉ f := by
      induction l with
      | nil => cases h
      | cons c r ih =>
        by_cases hc : c = 47
        · exact ⟨[], r, by rw [hc]; rfl, by simp⟩
        · rcases List.mem_cons.mp h with h | h
          · exact absurd h.symm hc
          · obtain ⟨f, b, e, hf⟩ := ih h
            refine ⟨c :: f, b, by rw [e]; rfl, fun q => ?_⟩
            rcases List.mem_cons.mp q with q | q
            · exact hc q.symm
            · exact hf q
    obtain ⟨e1, e2⟩ := span_at (b := b) hf
    left
    refine ⟨b, by rw [e, e2], ?_⟩
    rw [e, e1]
    have e3 : (⟨(f ++ 47 :: b).toArray⟩ : Str) = ⟨f.toArray⟩ ++ stroke ++ ⟨b.toArray⟩ := TL.ext_tl (by rw [TL.tl_append, TL.tl_append, tl_stroke, List.append_assoc]; rfl)
    rw [e3]
    exact TL.partition_app tl_stroke hf
  · obtain ⟨e1, e2⟩ := span_none h
    exact .inr ⟨e2, e1, TL.partition_none tl_stroke h⟩
/-! a ratio's text -/
def ratText (t b : Int) : Str := if b = 1 then dec t else dec t ++ stroke ++ dec b
theorem numL_head {n : Nat} (h : (TL.numL n).head? = some 48) : TL.numL n = [48] := by
  induction n using Nat.strongRecOn with
  | _ n ih =>
    by_cases hn : n < 10
    · rw [TL.numL_lt hn] at h ⊢
      have : 48 + n = 48 := Option.some.inj h
      rw [this]
    · rw [TL.numL_step (by omega)] at h
      have h1 : (TL.numL (n / 10)).head? = some 48 := by
        cases e : TL.numL (n / 10) with
        | nil => exact absurd e (TL.numL_ne _)
        | cons c r =>
          rw [e] at h
          exact h
      have h2 := ih (n / 10) (by omega) h1
      have h3 := congrArg NumText.digitsVal h2
      rw [TL.numL_val] at h3
      have h4 : NumText.digitsVal [48] = 0 := rfl
      omega
theorem numOk_num {n : Nat} (h : n < 10 ^ 9) : numOk (TL.numL n) = true := by
  unfold numOk
  have h1 : 1 ≤ (TL.numL n).length ∧ (TL.numL n).length ≤ 9 := by
    refine ⟨?_, TL.numL_len (by decide) h⟩
    cases e : TL.numL n with
    | nil => exact absurd e (TL.numL_ne n)
    | cons c r => exact Nat.succ_pos _
  have h2 : (TL.numL n).all (fun c => decide (48 ≤ c ∧ c ≤ 57)) = true := List.all_eq_true.mpr fun c hc => decide_eq_true (TL.numL_digits n c hc)
  rw [decide_eq_true h1, h2, Bool.true_and, Bool.and_true]
  by_cases h3 : (TL.numL n).head? = some 48
  · rw [decide_eq_true (numL_head h3), Bool.not_true, Bool.and_false, Bool.not_false]
  · rw [decide_eq_false h3, Bool.false_and, Bool.not_false]
theorem num_no47 (n : Nat) : 47 ∉ TL.numL n := TL.numL_free (.inl (by decide))
theorem strip_num {n : Nat} {r : List Nat} : stripL (TL.numL n ++ r) = TL.numL n ++ r ∧ negL (TL.numL n ++ r) = false := by
  cases e : TL.numL n with
  | nil => exact absurd e (TL.numL_ne n)
  | cons c q =>
    have hc : c ≠ 45 := fun z => TL.numL_free (n := n) (s := 45) (.inl (by decide)) (by rw [e, z]; exact List.mem_cons_self)
    refine ⟨if_neg hc, decide_eq_false fun z => hc (Option.some.inj z)⟩
/-- the text of a ratio with small numbers is read back -/
theorem text_back {t b : Int} (ht : t.natAbs < 10 ^ 9) (hb0 : 0 < b) (hb : b.natAbs < 10 ^ 9) : goodL (TL.tl (ratText t b)) = true ∧ topL (TL.tl (ratText t b)) = t ∧ botL (TL.tl (ratText t b)) = b := by
  have key : ∀ r : List Nat, TL.tl (ratText t b) = TL.tl (dec t) ++ r → stripL (TL.tl (ratText t b)) = TL.numL t.natAbs ++ r ∧ negL (TL.tl (ratText t b)) = decide (t < 0) := by
    intro r e
    rw [e]
    by_cases h : t < 0
    · rw [dec_neg h, decide_eq_true h]
      exact ⟨rfl, rfl⟩
    · rw [dec_nn h, decide_eq_false h]
      exact strip_num
  have fin : frontL (TL.tl (ratText t b)) = TL.numL t.natAbs → backL (TL.tl (ratText t b)) = TL.numL b.natAbs → negL (TL.tl (ratText t b)) = decide (t < 0) → goodL (TL.tl (ratText t b)) = true ∧ topL (TL.tl (ratText t b)) = t ∧ botL (TL.tl (ratText t b)) = b := by
    intro e1 e2 e3
    refine ⟨?_, ?_, ?_⟩
    · unfold goodL
      rw [e1, e2, numOk_num ht, numOk_num hb, Bool.true_and, Bool.true_and]
      have : TL.numL b.natAbs ≠ [48] := fun q => by
        have := congrArg NumText.digitsVal q
        rw [TL.numL_val] at this
        have h4 : NumText.digitsVal [48] = 0 := rfl
        omega
      rw [decide_eq_false this, Bool.not_false]
    · unfold topL
      rw [e1, e3, TL.numL_val]
      by_cases h : t < 0
      · rw [decide_eq_true h, if_pos rfl]; omega
      · rw [decide_eq_false h, if_neg Bool.false_ne_true]; omega
    · unfold botL
      rw [e2, TL.numL_val]
      omega
  by_cases h1 : b = 1
  · have e : TL.tl (ratText t b) = TL.tl (dec t) ++ [] := by
      unfold ratText
      rw [if_pos h1, List.append_nil]
    obtain ⟨k1, k2⟩ := key [] e
    rw [List.append_nil] at k1
    obtain ⟨s1, s2⟩ := span_none (num_no47 t.natAbs)
    refine fin ?_ ?_ k2
    · unfold frontL
      rw [k1, s1]
    · unfold backL
      rw [k1, s2, h1]
      rfl
  · have e : TL.tl (ratText t b) = TL.tl (dec t) ++ (47 :: TL.numL b.natAbs) := by
      unfold ratText
      rw [if_neg h1, TL.tl_append, TL.tl_append, tl_stroke, dec_nn (n := b) (by omega), List.append_assoc]
      rfl
    obtain ⟨k1, k2⟩ := key _ e
    obtain ⟨s1, s2⟩ := span_at (b := TL.numL b.natAbs) (num_no47 t.natAbs)
    refine fin ?_ ?_ k2
    · unfold frontL
      rw [k1, s1]
    · unfold backL
      rw [k1, s2]
theorem ratText_len {t b : Int} (ht : t.natAbs < 10 ^ 64) (hb : b.natAbs < 10 ^ 64) : (ratText t b).length ≤ 200 := by
  have h1 := dec_len (by decide) ht
  have h2 := dec_len (by decide) hb
  unfold ratText
  split
  · omega
  · rw [TL.len_tl, TL.tl_append, TL.tl_append, tl_stroke, List.length_append, List.length_append, ← TL.len_tl, ← TL.len_tl]
    simp only [List.length_cons, List.length_nil]
    omega

/-! ### the functions on ratios -/
section
variable {P : Program} {w : World} {K : PySem.W.Frag} {mg : Str → Option Value} {base : Heap}
theorem made_rat {C : Addr} {H : Hp} {t b : Int} {Q : VK} {E : XK} (hb : b ≠ 0) (hB : BIG b) (k : ∀ x H', H x = none → Same H H' → RatAt C H' x (lowT t b) (lowB t b) → Q (.ref x) H') :
    ∀ x dx, H x = none → H dx = none → dx ≠ x → spInit C [.ref x, .int t, .int b] (upd (upd H dx (.own x)) x (.ins C dx [])) (fun v H2 => v = .non ∧ Q (.ref x) H2) E :=
  fun x dx nx nd _ => ⟨x, dx, t, b, rfl, upd_same, hb, hB, fun H' r st => ⟨rfl, k x H' nx (Same.made nx nd st) r⟩⟩
theorem low_one (t : Int) : lowT t 1 = t ∧ lowB t 1 = 1 := by
  have e : dvs t 1 = 1 := by
    unfold dvs
    rw [if_neg (by decide)]
    simp
  unfold lowT lowB
  rw [e]
  exact ⟨by rw [Int.fdiv_one], by decide⟩
theorem big_one : BIG 1 := by show (1 : Nat) < 2 ^ 8000; decide +kernel
theorem tyR {C : Addr} {H : Hp} {p : Addr} {t b : Int} (ic : C8.InsC K C) (r : RatAt C H p t b) : TyX K H (.ref p) (.ref C) := by
  obtain ⟨dx, hp⟩ := r
  exact .base (.ins hp ic.cl ic.ha ic.hn ic.htk ic.hm)
theorem abs_of (n : Int) : (if n < 0 then -n else n) = ((n.natAbs : Nat) : Int) := by split <;> omega
end

section
variable {P : Program} {w : World} {K : PySem.W.Frag} {mg : Str → Option Value} {base : Heap}
/-- _law_low -/
def spLow : Sp := fun vs H Q _ => ∃ t b : Int, vs = [.int t, .int b] ∧ b ≠ 0 ∧ BIG b ∧ ∀ p H', H p = none → Same H H' → H' p = some (.tup [.int (lowT t b), .int (lowB t b)]) → Q (.ref p) H'
theorem ok_low (T : Txt K mg) : FnOk P w K mg base CX0 1 T.f_low T.d_low ["_law_up", "_law_down"] spLow := by
  refine T.F_low.ok sc_low (fun vs H Q E h => ?_) (fun cdv A outer s H vs Q E hr h => ?_)
  · obtain ⟨t, b, rfl, _⟩ := h
    rfl
  · obtain ⟨t, b, rfl, hb, hB, k⟩ := h
    refine ⟨_, (pss_cons (ps_set (i := 2) sc_low.nd rfl (Or.inl rfl) (pe_callB call_abs (by rfl) T.n_abs (by decide +kernel) (pa_cons (pv 0) pa_nil)))
    (pss_cons (ps_set (i := 3) sc_low.nd rfl (Or.inl rfl) (pe_callB call_abs (by rfl) T.n_abs (by decide +kernel) (pa_cons (pv 1) pa_nil)))
    (C8.pss_cut (ps_while PassesOwn.never (pt_cmpR op_ne (pv 3) pe_int (nomark _))
      (pss_one (ps_par (i := 2) (j := 3) (by rfl) sc_low.nd rfl rfl (by decide) rfl rfl (pa_cons (pv 3) (pa_cons (pe_op op_mod (pe_callTy call_int1 (by rfl) T.n_int (by decide +kernel) (pa_cons (pv 2) pa_nil)) (pv 3)) pa_nil)) (by rfl))))
    (C8.pss_cut (ps_if (pt_cmpR op_lt (pv 1) pe_int (nomark _))
      (pss_one (ps_set (i := 2) sc_low.nd rfl (Or.inl rfl) (pe_un un_neg (pv 2))))
      pss_nil)
    (pss_one (ps_ret (pe_tup (pa_cons (pe_op op_fdivZ (pv 0) (pv 2)) (pa_cons (pe_op op_fdivZ (pv 1) (pv 2)) pa_nil))))))))), ?_⟩
    refine ⟨_, rfl, t, rfl, ?_⟩
    rw [abs_of]
    refine ⟨_, rfl, b, rfl, ?_⟩
    rw [abs_of]
    refine ⟨fun σ H' => σ = [some (.int t), some (.int b), some (.int ((Nat.gcd t.natAbs b.natAbs : Nat) : Int)), some (.int 0)] ∧ H' = H, ?_, ?_⟩
    · refine ⟨fun m σ H' => ∃ x y : Nat, σ = [some (.int t), some (.int b), some (.int (x : Int)), some (.int (y : Int))] ∧ H' = H ∧ Nat.gcd x y = Nat.gcd t.natAbs b.natAbs ∧ y = m, ⟨_, _, _, rfl, rfl, rfl, rfl⟩, ?_⟩
      rintro m σ H' ⟨x, y, rfl, rfl, hg, rfl⟩
      refine ⟨_, rfl, rfl, _, rfl, ?_⟩
      by_cases hy : y = 0
      · subst hy
        refine iteF ⟨?_, rfl⟩
        rw [Nat.gcd_zero_right] at hg
        rw [hg]
        rfl
      · have ey : (!decide (V.int (y : Int) = V.int 0)) = true := by
          rw [Bool.not_eq_true', decide_eq_false_iff_not]
          intro q
          injection q with q
          omega
        rw [ey]
        refine iteT ⟨fun σ' H2 => ∃ x' y' : Nat, σ' = [some (.int t), some (.int b), some (.int (x' : Int)), some (.int (y' : Int))] ∧ H2 = H' ∧ Nat.gcd x' y' = Nat.gcd t.natAbs b.natAbs ∧ y' < y, fun σ' H2 ⟨x', y', e1, e2, e3, e4⟩ => ⟨y', e4, x', y', e1, e2, e3, rfl⟩, ?_⟩
        refine ⟨_, rfl, _, rfl, .inl ⟨_, rfl, _, rfl, (x : Int), (y : Int), rfl, rfl, (by show (0 : Int) < (y : Int); omega), _, _, rfl, y, x % y, ?_, rfl, ?_, Nat.mod_lt _ (by omega)⟩⟩
        · rfl
        · rw [← hg, Nat.gcd_comm x y, Nat.gcd_rec y x, Nat.gcd_comm]
    rintro σ H' ⟨rfl, rfl⟩
    refine ⟨fun σ H2 => σ = [some (.int t), some (.int b), some (.int (dvs t b)), some (.int 0)] ∧ H2 = H', ?_, ?_⟩
    · refine ⟨_, rfl, b, 0, rfl, rfl, _, rfl, ite2 (fun h0 => ?_) fun h0 => ?_⟩
      · refine ⟨_, rfl, _, rfl, ?_, rfl⟩
        unfold dvs
        rw [if_pos (of_decide_eq_true h0)]
        rfl
      · refine ⟨?_, rfl⟩
        unfold dvs
        rw [if_neg fun q => h0 (decide_eq_true q)]
    rintro σ H2 ⟨rfl, rfl⟩
    have hz : ∀ i : Int, CDivZ i (dvs t b) := fun i => cdivZ (dvs_ne hb) (Nat.lt_of_le_of_lt (dvs_le hb) hB)
    exact ⟨_, rfl, _, rfl, t, _, rfl, rfl, hz _, _, rfl, _, rfl, b, _, rfl, rfl, hz _, (by show 2 ≤ sizeLine; decide), fun p hp => k p _ hp (same_upd hp) upd_same⟩
end

section
variable {P : Program} {w : World} {K : PySem.W.Frag} {mg : Str → Option Value} {base : Heap}
def dat2 (t b : Int) : PyData := .tuple [.int t, .int b]
theorem dp2 {H : Hp} {q : Addr} {t b : Int} (h : H q = some (.tup [.int t, .int b])) : Dp K H (.ref q) (dat2 t b) := .tup (SqT.of h) (.cons (.int _) (.cons (.int _) .nil))
theorem sh2 (t b : Int) : SeqAt.shaped (dat2 t b) = true := by simp [dat2, SeqAt.shaped, PyData.canLay0, PyData.canLayAll0, PyData.depth, PyData.depthAll]
theorem eq2 (t b : Int) : PyData.eqv (dat2 t b) (dat2 t b) = true := by simp [dat2, PyData.eqv, PyData.eqvAll]
/-- _law_is, where it holds -/
def spIs (C : Addr) : Sp := fun vs H Q _ => ∃ (p q : Addr) (t b : Int), vs = [.ref p, .ref q] ∧ RatAt C H p t b ∧ H q = some (.tup [.int t, .int b]) ∧ ∀ H', Same H H' → Q (.bl true) H'
theorem ok_is (T : Txt K mg) : FnOk P w K mg base CX0 3 T.f_is T.d_is ["_law_actual", "_law_pair"] (spIs T.f_Ratio) := by
  have G_Ratio_top : FnOk P w K mg base CX0 1 T.f_Ratio_top T.d_Ratio_top ["self"] (spTop T.f_Ratio) := ok_top T
  have G_Ratio_bottom : FnOk P w K mg base CX0 1 T.f_Ratio_bottom T.d_Ratio_bottom ["self"] (spBottom T.f_Ratio) := ok_bottom T
  refine T.F_is.ok sc_is (fun vs H Q E h => ?_) (fun cdv A outer s H vs Q E hr h => ?_)
  · obtain ⟨p, q, t, b, rfl, _⟩ := h
    rfl
  · obtain ⟨p, q, t, b, rfl, r, hq, k⟩ := h
    obtain ⟨dx, hp⟩ := id r
    refine ⟨_, (pss_cons (ps_if (PW.pt (pw_or (pt_not (pt_val (pe_callB call_isi (by rfl) T.n_isinstance (by decide +kernel) (pa_cons (pv 0) (pa_cons (pe_glob (v := .ref T.f_Ratio) rfl T.m_Ratio rfl) pa_nil))))) (pw_or (pt_not (pt_val (pe_callB call_isi (by rfl) T.n_isinstance (by decide +kernel) (pa_cons (pe_prop (pv 0) T.cl_Ratio T.p_Ratio_top G_Ratio_top (hr.mono (by decide)) T.b_Ratio_top .nil pass0 rfl) (pa_cons (pe_bltn (v := .ty "int") (u := .type "int") (by rfl) T.n_int (by decide +kernel) rfl) pa_nil))))) (pw_or1 (pt_not (pt_val (pe_callB call_isi (by rfl) T.n_isinstance (by decide +kernel) (pa_cons (pe_prop (pv 0) T.cl_Ratio T.p_Ratio_bottom G_Ratio_bottom (hr.mono (by decide)) T.b_Ratio_bottom .nil pass0 rfl) (pa_cons (pe_bltn (v := .ty "int") (u := .type "int") (by rfl) T.n_int (by decide +kernel) rfl) pa_nil)))))))))
      (pss_one (ps_ret pe_bl))
      pss_nil)
    (pss_one (ps_ret (pe_cmpR (op_eqD hr.units) (pe_tup (pa_cons (pe_prop (pv 0) T.cl_Ratio T.p_Ratio_top G_Ratio_top (hr.mono (by decide)) T.b_Ratio_top .nil pass0 rfl) (pa_cons (pe_prop (pv 0) T.cl_Ratio T.p_Ratio_bottom G_Ratio_bottom (hr.mono (by decide)) T.b_Ratio_bottom .nil pass0 rfl) pa_nil))) (pv 1) (nomark _))))), ?_⟩
    refine ⟨_, rfl, .ref p, .ref T.f_Ratio, .ref T.f_Ratio, .ref T.f_Ratio, true, rfl, .own _, tyR T.ic_Ratio r, kit_self, true, rfl, iteF ?_⟩
    refine ⟨_, rfl, p, dx, _, rfl, hp, p, t, b, rfl, r, .int t, .ty "int", .type "int", .type "int", true, rfl, .ty _, .base (.int _), kit_ty (by decide +kernel), true, rfl, iteF ?_⟩
    refine ⟨_, rfl, p, dx, _, rfl, hp, p, t, b, rfl, r, .int b, .ty "int", .type "int", .type "int", true, rfl, .ty _, .base (.int _), kit_ty (by decide +kernel), true, rfl, iteF ?_⟩
    refine ⟨_, rfl, p, dx, _, rfl, hp, p, t, b, rfl, r, _, rfl, p, dx, _, rfl, hp, p, t, b, rfl, r, (by show 2 ≤ sizeLine; decide), fun o ho => ?_⟩
    refine ⟨_, rfl, dat2 t b, dat2 t b, dp2 upd_same, dp2 (same_upd ho _ _ hq), sh2 t b, sh2 t b, ?_⟩
    rw [eq2]
    exact k _ (same_upd ho)
end

/-! ### lowest terms -/
theorem dvs_abs (t b : Int) : (dvs t b).natAbs = Nat.gcd t.natAbs b.natAbs := by
  unfold dvs
  split <;> omega
theorem dvs_dvd_t (t b : Int) : dvs t b ∣ t := Int.natAbs_dvd_natAbs.mp (by rw [dvs_abs]; exact Nat.gcd_dvd_left _ _)
theorem dvs_dvd_b (t b : Int) : dvs t b ∣ b := Int.natAbs_dvd_natAbs.mp (by rw [dvs_abs]; exact Nat.gcd_dvd_right _ _)
theorem fdiv_mul {a d : Int} (h : d ∣ a) : a.fdiv d * d = a := by
  obtain ⟨c, rfl⟩ := h
  by_cases hd : d = 0
  · subst hd; simp
  · rw [Int.mul_comm d c, Int.mul_fdiv_cancel _ hd]
theorem lowT_mul (t b : Int) : lowT t b * dvs t b = t := fdiv_mul (dvs_dvd_t t b)
theorem lowB_mul (t b : Int) : lowB t b * dvs t b = b := fdiv_mul (dvs_dvd_b t b)
theorem lowT_le {t b : Int} (h : b ≠ 0) : (lowT t b).natAbs ≤ t.natAbs := by
  have e := congrArg Int.natAbs (lowT_mul t b)
  rw [Int.natAbs_mul] at e
  have hd : 0 < (dvs t b).natAbs := by have := dvs_ne (t := t) h; omega
  rw [← e]
  exact Nat.le_mul_of_pos_right _ hd
theorem lowB_le {t b : Int} (h : b ≠ 0) : (lowB t b).natAbs ≤ b.natAbs := by
  have e := congrArg Int.natAbs (lowB_mul t b)
  rw [Int.natAbs_mul] at e
  have hd : 0 < (dvs t b).natAbs := by have := dvs_ne (t := t) h; omega
  rw [← e]
  exact Nat.le_mul_of_pos_right _ hd
theorem lowB_pos {t b : Int} (h : b ≠ 0) : 0 < lowB t b := by
  have e := lowB_mul t b
  have hg : 0 < Nat.gcd t.natAbs b.natAbs := Nat.gcd_pos_of_pos_right _ (by omega)
  by_cases hb : b < 0
  · have hd : dvs t b < 0 := by unfold dvs; rw [if_pos hb]; omega
    rcases Int.lt_trichotomy (lowB t b) 0 with q | q | q
    · have : 0 < lowB t b * dvs t b := Int.mul_pos_of_neg_of_neg q hd
      omega
    · rw [q, Int.zero_mul] at e; omega
    · exact q
  · have hd : 0 < dvs t b := by unfold dvs; rw [if_neg hb]; omega
    rcases Int.lt_trichotomy (lowB t b) 0 with q | q | q
    · have : lowB t b * dvs t b < 0 := Int.mul_neg_of_neg_of_pos q hd
      omega
    · rw [q, Int.zero_mul] at e; omega
    · exact q
theorem low_gcd {t b : Int} (h : b ≠ 0) : Nat.gcd (lowT t b).natAbs (lowB t b).natAbs = 1 := by
  have e1 := congrArg Int.natAbs (lowT_mul t b)
  have e2 := congrArg Int.natAbs (lowB_mul t b)
  rw [Int.natAbs_mul, dvs_abs] at e1 e2
  have hg : 0 < Nat.gcd t.natAbs b.natAbs := Nat.gcd_pos_of_pos_right _ (by omega)
  have e3 : Nat.gcd (lowT t b).natAbs (lowB t b).natAbs * Nat.gcd t.natAbs b.natAbs = 1 * Nat.gcd t.natAbs b.natAbs := by
    rw [← Nat.gcd_mul_right, e1, e2, Nat.one_mul]
  exact Nat.eq_of_mul_eq_mul_right hg e3
theorem low_same {t b : Int} (hb : 0 < b) (hg : Nat.gcd t.natAbs b.natAbs = 1) : lowT t b = t ∧ lowB t b = b := by
  have e : dvs t b = 1 := by
    unfold dvs
    rw [if_neg (by omega), hg]
    rfl
  unfold lowT lowB
  rw [e, Int.fdiv_one, Int.fdiv_one]
  exact ⟨rfl, rfl⟩
theorem low_low {t b : Int} (h : b ≠ 0) : lowT (lowT t b) (lowB t b) = lowT t b ∧ lowB (lowT t b) (lowB t b) = lowB t b := low_same (lowB_pos h) (low_gcd h)

/-! ### sums, products, differences -/
section
variable {P : Program} {w : World} {K : PySem.W.Frag} {mg : Str → Option Value} {base : Heap}
def Low (t b : Int) : Prop := 0 < b ∧ Nat.gcd t.natAbs b.natAbs = 1
theorem Low.of {t b : Int} (h : b ≠ 0) : Low (lowT t b) (lowB t b) := ⟨lowB_pos h, low_gcd h⟩
theorem Low.neg {t b : Int} (h : Low t b) : Low (-t) b := ⟨h.1, by rw [Int.natAbs_neg]; exact h.2⟩
theorem Low.one (t : Int) : Low t 1 := ⟨by decide, by simp⟩
theorem Low.ne {t b : Int} (h : Low t b) : b ≠ 0 := by have := h.1; omega
theorem Low.tt {t b : Int} (h : Low t b) : lowT t b = t := (low_same h.1 h.2).1
theorem Low.bb {t b : Int} (h : Low t b) : lowB t b = b := (low_same h.1 h.2).2
theorem dvs_scale {k t b : Int} (hk : k ≠ 0) (hb : b ≠ 0) : dvs (k * t) (k * b) = k * dvs t b := by
  have eg : Nat.gcd (k * t).natAbs (k * b).natAbs = k.natAbs * Nat.gcd t.natAbs b.natAbs := by rw [Int.natAbs_mul, Int.natAbs_mul, Nat.gcd_mul_left]
  unfold dvs
  rw [eg, Int.natCast_mul]
  generalize ((Nat.gcd t.natAbs b.natAbs : Nat) : Int) = g
  rcases Int.lt_or_gt_of_ne hk with q | q <;> rcases Int.lt_or_gt_of_ne hb with r | r
  · have : 0 < k * b := Int.mul_pos_of_neg_of_neg q r
    rw [if_neg (by omega), if_pos r, show ((k.natAbs : Nat) : Int) = -k by omega, Int.neg_mul, Int.mul_neg]
  · have : k * b < 0 := Int.mul_neg_of_neg_of_pos q r
    rw [if_pos this, if_neg (by omega), show ((k.natAbs : Nat) : Int) = -k by omega, Int.neg_mul, Int.neg_neg]
  · have : k * b < 0 := Int.mul_neg_of_pos_of_neg q r
    rw [if_pos this, if_pos r, show ((k.natAbs : Nat) : Int) = k by omega, Int.mul_neg]
  · have : 0 < k * b := Int.mul_pos q r
    rw [if_neg (by omega), if_neg (by omega), show ((k.natAbs : Nat) : Int) = k by omega]
theorem fdiv_scale {k a d : Int} (hk : k ≠ 0) (hd : d ≠ 0) (h : d ∣ a) : (k * a).fdiv (k * d) = a.fdiv d := by
  obtain ⟨c, rfl⟩ := h
  have e : k * (d * c) = c * (k * d) := by rw [Int.mul_comm c, Int.mul_assoc]
  rw [e, Int.mul_fdiv_cancel _ (Int.mul_ne_zero hk hd), Int.mul_comm d c, Int.mul_fdiv_cancel _ hd]
theorem low_scale {k t b : Int} (hk : k ≠ 0) (hb : b ≠ 0) : lowT (k * t) (k * b) = lowT t b ∧ lowB (k * t) (k * b) = lowB t b := by
  unfold lowT lowB
  rw [dvs_scale hk hb]
  exact ⟨fdiv_scale hk (dvs_ne hb) (dvs_dvd_t t b), fdiv_scale hk (dvs_ne hb) (dvs_dvd_b t b)⟩
/-- divided by x / y, that is, times the lowest terms of y / x -/
theorem low_over {t b x y : Int} (hy : y ≠ 0) (hb : b ≠ 0) : lowT (t * x) (b * y) = lowT (t * lowT x y) (b * lowB x y) ∧ lowB (t * x) (b * y) = lowB (t * lowT x y) (b * lowB x y) := by
  have h := low_scale (k := dvs x y) (t := t * lowT x y) (b := b * lowB x y) (dvs_ne hy) (Int.mul_ne_zero hb (by have := lowB_pos (t := x) hy; omega))
  have e1 : dvs x y * (t * lowT x y) = t * x := by rw [Int.mul_comm, Int.mul_assoc, lowT_mul]
  have e2 : dvs x y * (b * lowB x y) = b * y := by rw [Int.mul_comm, Int.mul_assoc, lowB_mul]
  rw [e1, e2] at h
  exact h
def SM (z : Int) : Prop := z.natAbs < 2 ^ 3900
theorem sm_mul {a b : Int} (ha : SM a) (hb : SM b) : CMulW a b := wide_mul (a := 3900) (b := 3900) ha hb (by decide) (by decide) (by decide)
theorem big_mul {a b : Int} (ha : SM a) (hb : SM b) : BIG (a * b) := by
  show (a * b).natAbs < 2 ^ 8000
  rw [Int.natAbs_mul]
  exact Nat.lt_of_le_of_lt (Nat.mul_le_mul (Nat.le_of_lt ha) (Nat.le_of_lt hb)) (by decide +kernel)
theorem SM.big {a : Int} (h : SM a) : BIG a := Nat.lt_of_lt_of_le h (by decide +kernel)
theorem SM.neg {a : Int} (h : SM a) : SM (-a) := by unfold SM; rw [Int.natAbs_neg]; exact h
theorem sm_one : SM 1 := by show (1 : Nat) < 2 ^ 3900; decide +kernel
/-- a ratio, or an int as one -/
def Num (C : Addr) (H : Hp) (v : V) (t b : Int) : Prop := (v = .int t ∧ b = 1) ∨ ∃ p, v = .ref p ∧ RatAt C H p t b
theorem RatAt.on {C : Addr} {H H' : Hp} {p : Addr} {t b : Int} (r : RatAt C H p t b) (s : Same H H') : RatAt C H' p t b := let ⟨dx, h⟩ := r; ⟨dx, s _ _ h⟩
theorem Num.on {C : Addr} {H H' : Hp} {v : V} {t b : Int} (n : Num C H v t b) (s : Same H H') : Num C H' v t b := n.elim .inl fun ⟨p, e, r⟩ => .inr ⟨p, e, r.on s⟩
def spNum (C : Addr) : Sp := fun vs H Q _ => ∃ (v : V) (t b : Int), vs = [v] ∧ Num C H v t b ∧ ∀ p H', Same H H' → RatAt C H' p t b → Q (.ref p) H'
theorem ok_asN (T : Txt K mg) : FnOk P w K mg base CX0 3 T.f_as_ratio T.d_as_ratio ["value"] (spNum T.f_Ratio) := by
  have G_Ratio_init : FnOk P w K mg base CX0 1 T.f_Ratio_init T.d_Ratio_init ["self", "top", "bottom"] (spInit T.f_Ratio) := ok_init T
  refine T.F_as_ratio.ok sc_as_ratio (fun vs H Q E h => ?_) (fun cdv A outer s H vs Q E hr h => ?_)
  · obtain ⟨v, t, b, rfl, _⟩ := h
    rfl
  · obtain ⟨v, t, b, rfl, n, k⟩ := h
    refine ⟨_, (pss_cons (ps_if (pt_val (pe_callB call_isi (by rfl) T.n_isinstance (by decide +kernel) (pa_cons (pv 0) (pa_cons (pe_glob (v := .ref T.f_Ratio) rfl T.m_Ratio rfl) pa_nil))))
      (pss_one (ps_ret (pv 0)))
      pss_nil)
    (pss_one (ps_ret (pe_make T.mk_Ratio G_Ratio_init (hr.mono (by decide)) rfl T.m_Ratio T.b1_Ratio_init T.v1_Ratio_init pass0 (pa_cons (pv 0) pa_nil))))), ?_⟩
    rcases n with ⟨rfl, rfl⟩ | ⟨p, rfl, r⟩
    · refine ⟨_, rfl, .int t, .ref T.f_Ratio, .type "int", .ref T.f_Ratio, false, rfl, .own _, .base (.int _), T.ki_Ratio_int, false, rfl, iteF ?_⟩
      refine ⟨_, rfl, made_rat (by decide) big_one fun x H' nx sm r => ?_⟩
      rw [(low_one t).1, (low_one t).2] at r
      exact k x H' sm r
    · exact ⟨_, rfl, .ref p, .ref T.f_Ratio, .ref T.f_Ratio, .ref T.f_Ratio, true, rfl, .own _, tyR T.ic_Ratio r, kit_self, true, rfl, iteT ⟨_, rfl, k p H (Same.refl H) r⟩⟩
/-- a new ratio, in lowest terms -/
def Res (C : Addr) (H : Hp) (x y : Int) (Q : VK) : Prop := ∀ q H', H q = none → Same H H' → RatAt C H' q (lowT x y) (lowB x y) → Q (.ref q) H'
def spAdd (C : Addr) : Sp := fun vs H Q _ => ∃ (p : Addr) (y : V) (t b t' b' : Int), vs = [.ref p, y] ∧ RatAt C H p t b ∧ Num C H y t' b' ∧ SM t ∧ SM b ∧ SM t' ∧ SM b' ∧ b ≠ 0 ∧ b' ≠ 0 ∧ Res C H (t * b' + t' * b) (b * b') Q
def spMul (C : Addr) : Sp := fun vs H Q _ => ∃ (p : Addr) (y : V) (t b t' b' : Int), vs = [.ref p, y] ∧ RatAt C H p t b ∧ Num C H y t' b' ∧ SM t ∧ SM b ∧ SM t' ∧ SM b' ∧ b ≠ 0 ∧ b' ≠ 0 ∧ Res C H (t * t') (b * b') Q
def spOver (C : Addr) : Sp := fun vs H Q _ => ∃ (p : Addr) (y : V) (t b t' b' : Int), vs = [.ref p, y] ∧ RatAt C H p t b ∧ Num C H y t' b' ∧ SM t ∧ SM b ∧ SM t' ∧ SM b' ∧ b ≠ 0 ∧ t' ≠ 0 ∧ Res C H (t * b') (b * t') Q
def spBelow (C : Addr) : Sp := fun vs H Q _ => ∃ (p : Addr) (y : V) (t b t' b' : Int), vs = [.ref p, y] ∧ RatAt C H p t b ∧ Num C H y t' b' ∧ SM t ∧ SM b ∧ SM t' ∧ SM b' ∧ ∀ H', Same H H' → Q (.bl (decide (t * b' < t' * b))) H'
def spNeg (C : Addr) : Sp := fun vs H Q _ => ∃ (p : Addr) (t b : Int), vs = [.ref p] ∧ RatAt C H p t b ∧ Low t b ∧ SM b ∧ ∀ q H', H q = none → Same H H' → RatAt C H' q (-t) b → Q (.ref q) H'
def spEqB (C : Addr) : Sp := fun vs H Q _ => ∃ (p q : Addr) (t b t' b' : Int), vs = [.ref p, .ref q] ∧ RatAt C H p t b ∧ RatAt C H q t' b' ∧ Q (.bl (decide (t = t' ∧ b = b'))) H
end

section
variable {P : Program} {w : World} {K : PySem.W.Frag} {mg : Str → Option Value} {base : Heap}
theorem ok_eqB (T : Txt K mg) : FnOk P w K mg base CX0 1 T.f_Ratio_eq T.d_Ratio_eq ["self", "other"] (spEqB T.f_Ratio) := by
  refine T.F_Ratio_eq.ok sc_Ratio_eq (fun vs H Q E h => ?_) (fun cdv A outer s H vs Q E hr h => ?_)
  · obtain ⟨a, b, t, c, t', c', rfl, _⟩ := h
    rfl
  · obtain ⟨a, b, t, c, t', c', rfl, ra, rb, k⟩ := h
    obtain ⟨da, ha⟩ := id ra
    obtain ⟨db, hb⟩ := id rb
    refine ⟨_, (pss_one (ps_ret (pe_and (pe_callB call_isi (by rfl) T.n_isinstance (by decide +kernel) (pa_cons (pv 1) (pa_cons (pe_glob (v := .ref T.f_Ratio) rfl T.m_Ratio rfl) pa_nil))) (pe_and (pe_cmpR op_eq (pe_fld (pv 0) rfl) (pe_fld (pv 1) rfl) (nomark _)) (pe_one (pe_cmpR op_eq (pe_fld (pv 0) rfl) (pe_fld (pv 1) rfl) (nomark _))))))), ?_⟩
    refine ⟨_, rfl, .ref b, .ref T.f_Ratio, .ref T.f_Ratio, .ref T.f_Ratio, true, rfl, .own _, tyR T.ic_Ratio rb, kit_self, true, rfl, iteT ?_⟩
    refine ⟨_, rfl, a, T.f_Ratio, da, _, _, rfl, ha, T.cl_Ratio, T.na_Ratio_top, rf_top _ _, _, rfl, b, T.f_Ratio, db, _, _, rfl, hb, T.cl_Ratio, T.na_Ratio_top, rf_top _ _, rfl, ?_⟩
    by_cases e1 : t = t'
    · refine ⟨true, by rw [decide_eq_true (by rw [e1])], iteT ?_⟩
      refine ⟨_, rfl, a, T.f_Ratio, da, _, _, rfl, ha, T.cl_Ratio, T.na_Ratio_bottom, rf_bottom _ _, _, rfl, b, T.f_Ratio, db, _, _, rfl, hb, T.cl_Ratio, T.na_Ratio_bottom, rf_bottom _ _, rfl, ?_⟩
      have e : decide (V.int c = V.int c') = decide (t = t' ∧ c = c') := decide_eq_decide.mpr ⟨fun q => ⟨e1, by injection q⟩, fun q => by rw [q.2]⟩
      rw [e]
      exact k
    · refine ⟨false, by rw [decide_eq_false (fun q => e1 (by injection q))], iteF ?_⟩
      have e : decide (t = t' ∧ c = c') = false := decide_eq_false fun q => e1 q.1
      rw [e] at k
      exact k
end

/-! ### pairs of ints -/
section
variable {P : Program} {w : World} {K : PySem.W.Frag} {mg : Str → Option Value} {base : Heap}
def PairAt (H : Hp) (q : Addr) (t b : Int) : Prop := H q = some (.tup [.int t, .int b])
def ResP (H : Hp) (x y : Int) (Q : VK) : Prop := ∀ o H', H o = none → Same H H' → PairAt H' o (lowT x y) (lowB x y) → Q (.ref o) H'
def spPlus : Sp := fun vs H Q _ => ∃ (q q' : Addr) (t b t' b' : Int), vs = [.ref q, .ref q'] ∧ PairAt H q t b ∧ PairAt H q' t' b' ∧ SM t ∧ SM b ∧ SM t' ∧ SM b' ∧ b ≠ 0 ∧ b' ≠ 0 ∧ ResP H (t * b' + t' * b) (b * b') Q
def spTimes : Sp := fun vs H Q _ => ∃ (q q' : Addr) (t b t' b' : Int), vs = [.ref q, .ref q'] ∧ PairAt H q t b ∧ PairAt H q' t' b' ∧ SM t ∧ SM b ∧ SM t' ∧ SM b' ∧ b ≠ 0 ∧ b' ≠ 0 ∧ ResP H (t * t') (b * b') Q
def spLess : Sp := fun vs H Q _ => ∃ (q q' : Addr) (t b t' b' : Int), vs = [.ref q, .ref q'] ∧ PairAt H q t b ∧ PairAt H q' t' b' ∧ SM t ∧ SM b ∧ SM t' ∧ SM b' ∧ Q (.bl (decide (t * b' < t' * b))) H
end

section
variable {P : Program} {w : World} {K : PySem.W.Frag} {mg : Str → Option Value} {base : Heap}
theorem ok_plus (T : Txt K mg) : FnOk P w K mg base CX0 2 T.f_plus T.d_plus ["_law_one", "_law_two"] spPlus := by
  have G_low : FnOk P w K mg base CX0 1 T.f_low T.d_low ["_law_up", "_law_down"] spLow := ok_low T
  refine T.F_plus.ok sc_plus (fun vs H Q E h => ?_) (fun cdv A outer s H vs Q E hr h => ?_)
  · obtain ⟨q, q', t, b, t', b', rfl, _⟩ := h
    rfl
  · obtain ⟨q, q', t, b, t', b', rfl, hq, hq', ht, hb, ht', hb', h0, h0', k⟩ := h
    refine ⟨_, (pss_one (ps_ret (pe_call G_low (hr.mono (by decide)) rfl T.m_low T.F_low.kp T.b_low .nil pass0 (pa_cons (pe_op op_add (pe_op op_mulW (pe_ix ix_tup (pv 0) pe_int (fun _ _ => rfl)) (pe_ix ix_tup (pv 1) pe_int (fun _ _ => rfl))) (pe_op op_mulW (pe_ix ix_tup (pv 1) pe_int (fun _ _ => rfl)) (pe_ix ix_tup (pv 0) pe_int (fun _ _ => rfl)))) (pa_cons (pe_op op_mulW (pe_ix ix_tup (pv 0) pe_int (fun _ _ => rfl)) (pe_ix ix_tup (pv 1) pe_int (fun _ _ => rfl))) pa_nil))))), ?_⟩
    refine ⟨_, rfl, q, _, 0, .int t, rfl, rfl, SqT.of hq, rfl, _, rfl, q', _, 1, .int b', rfl, rfl, SqT.of hq', rfl, _, _, rfl, rfl, sm_mul ht hb', ?_⟩
    refine ⟨_, rfl, q', _, 0, .int t', rfl, rfl, SqT.of hq', rfl, _, rfl, q, _, 1, .int b, rfl, rfl, SqT.of hq, rfl, _, _, rfl, rfl, sm_mul ht' hb, _, _, rfl, rfl, ?_⟩
    refine ⟨_, rfl, q, _, 1, .int b, rfl, rfl, SqT.of hq, rfl, _, rfl, q', _, 1, .int b', rfl, rfl, SqT.of hq', rfl, _, _, rfl, rfl, sm_mul hb hb', ?_⟩
    exact ⟨_, _, rfl, Int.mul_ne_zero h0 h0', big_mul hb hb', k⟩
end

/-! ### ratios by their values -/
section
variable {P : Program} {w : World} {K : PySem.W.Frag} {mg : Str → Option Value} {base : Heap}
def vq (t b : Int) : Rat := (t : Rat) / (b : Rat)
theorem rat_ne {b : Int} (h : b ≠ 0) : (b : Rat) ≠ 0 := fun e => h (by exact_mod_cast e)
theorem rat_pos {b : Int} (h : 0 < b) : (0 : Rat) < (b : Rat) := by exact_mod_cast h
theorem vq_low {t b : Int} (h : b ≠ 0) : vq (lowT t b) (lowB t b) = vq t b := by
  have e1 : ((lowT t b : Int) : Rat) * (dvs t b : Rat) = (t : Rat) := by exact_mod_cast congrArg (fun z : Int => (z : Rat)) (lowT_mul t b)
  have e2 : ((lowB t b : Int) : Rat) * (dvs t b : Rat) = (b : Rat) := by exact_mod_cast congrArg (fun z : Int => (z : Rat)) (lowB_mul t b)
  have h1 := rat_ne h
  have h2 := rat_ne (dvs_ne (t := t) h)
  have h3 : ((lowB t b : Int) : Rat) ≠ 0 := rat_ne (by have := lowB_pos (t := t) h; omega)
  unfold vq
  generalize ((lowT t b : Int) : Rat) = x at *
  generalize ((lowB t b : Int) : Rat) = y at *
  generalize ((dvs t b : Int) : Rat) = d at *
  rw [← e1, ← e2]
  grind
theorem cross {t b t' b' : Int} (hb : b ≠ 0) (hb' : b' ≠ 0) (h : vq t b = vq t' b') : t * b' = t' * b := by
  have h1 := rat_ne hb
  have h2 := rat_ne hb'
  unfold vq at h
  have : (t : Rat) * (b' : Rat) = (t' : Rat) * (b : Rat) := by grind
  exact_mod_cast this
theorem low_unique {t b t' b' : Int} (h : Low t b) (h' : Low t' b') (e : vq t b = vq t' b') : t = t' ∧ b = b' := by
  have c := cross h.ne h'.ne e
  have l1 := low_scale (k := b') (t := t) (b := b) h'.ne h.ne
  have l2 := low_scale (k := b) (t := t') (b := b') h.ne h'.ne
  have e1 : b' * t = b * t' := by rw [Int.mul_comm b' t, c, Int.mul_comm]
  have e2 : b' * b = b * b' := Int.mul_comm _ _
  rw [e1, e2] at l1
  rw [h.tt, h.bb] at l1
  rw [h'.tt, h'.bb] at l2
  exact ⟨l1.1.symm.trans l2.1, l1.2.symm.trans l2.2⟩
theorem vq_add {t b t' b' : Int} (hb : b ≠ 0) (hb' : b' ≠ 0) : vq (t * b' + t' * b) (b * b') = vq t b + vq t' b' := by
  have h1 := rat_ne hb
  have h2 := rat_ne hb'
  unfold vq
  push_cast
  grind
theorem vq_mul {t b t' b' : Int} (hb : b ≠ 0) (hb' : b' ≠ 0) : vq (t * t') (b * b') = vq t b * vq t' b' := by
  have h1 := rat_ne hb
  have h2 := rat_ne hb'
  unfold vq
  push_cast
  grind
theorem vq_neg {t b : Int} : vq (-t) b = - vq t b := by
  unfold vq
  push_cast
  grind
theorem vq_over {t b t' b' : Int} (hb : b ≠ 0) (hb' : b' ≠ 0) (ht' : t' ≠ 0) : vq (t * b') (b * t') = vq t b / vq t' b' := by
  have h1 := rat_ne hb
  have h2 := rat_ne hb'
  have h3 := rat_ne ht'
  unfold vq
  push_cast
  grind
theorem vq_lt {t b t' b' : Int} (hb : 0 < b) (hb' : 0 < b') : t * b' < t' * b ↔ vq t b < vq t' b' := by
  have h1 := rat_pos hb
  have h2 := rat_pos hb'
  have e1 : vq t b * ((b : Rat) * (b' : Rat)) = (t : Rat) * (b' : Rat) := by unfold vq; have := rat_ne (show b ≠ 0 by omega); grind
  have e2 : vq t' b' * ((b : Rat) * (b' : Rat)) = (t' : Rat) * (b : Rat) := by unfold vq; have := rat_ne (show b' ≠ 0 by omega); grind
  have hp : (0 : Rat) < (b : Rat) * (b' : Rat) := Rat.mul_pos h1 h2
  constructor
  · intro h
    have h' : (t : Rat) * (b' : Rat) < (t' : Rat) * (b : Rat) := by exact_mod_cast h
    rw [← e1, ← e2] at h'
    refine Classical.byContradiction fun q => ?_
    have q' := Rat.mul_le_mul_of_nonneg_right (Rat.not_lt.mp q) (Rat.le_of_lt hp)
    exact absurd h' (Rat.not_lt.mpr q')
  · intro h
    have h' := Rat.mul_lt_mul_of_pos_right h hp
    rw [e1, e2] at h'
    exact_mod_cast h'
theorem vq_zero {b : Int} (hb : b ≠ 0) {t : Int} : vq t b = 0 ↔ t = 0 := by
  have h1 := rat_ne hb
  constructor
  · intro h
    have : (t : Rat) = 0 := by unfold vq at h; grind
    exact_mod_cast this
  · rintro rfl
    unfold vq
    push_cast
    grind
end

/-! ### promises by values -/
section
variable {P : Program} {w : World} {K : PySem.W.Frag} {mg : Str → Option Value} {base : Heap}
theorem at1 {α : Type} {x y : α} {xs : List α} : atI (x :: y :: xs) 1 = some y := atI_nat (j := 1) rfl
/-- fewer than n bits -/
def Sz (n : Nat) (t b : Int) : Prop := t.natAbs < 2 ^ n ∧ b.natAbs < 2 ^ n
theorem Sz.mono {n m : Nat} {t b : Int} (h : Sz n t b) (hn : n ≤ m) : Sz m t b := ⟨Nat.lt_of_lt_of_le h.1 (Nat.pow_le_pow_right (by decide) hn), Nat.lt_of_lt_of_le h.2 (Nat.pow_le_pow_right (by decide) hn)⟩
theorem Sz.sm {n : Nat} {t b : Int} (h : Sz n t b) (hn : n ≤ 3900) : SM t ∧ SM b := h.mono hn
theorem lt_mul {a b n m : Nat} (ha : a < 2 ^ n) (hb : b < 2 ^ m) : a * b < 2 ^ (n + m) := by
  rw [Nat.pow_add]
  exact Nat.mul_lt_mul'' ha hb
theorem Sz.mul {n m : Nat} {t b t' b' : Int} (h : Sz n t b) (h' : Sz m t' b') : Sz (n + m) (t * t') (b * b') := ⟨by rw [Int.natAbs_mul]; exact lt_mul h.1 h'.1, by rw [Int.natAbs_mul]; exact lt_mul h.2 h'.2⟩
theorem Sz.over {n m : Nat} {t b t' b' : Int} (h : Sz n t b) (h' : Sz m t' b') : Sz (n + m) (t * b') (b * t') := ⟨by rw [Int.natAbs_mul]; exact lt_mul h.1 h'.2, by rw [Int.natAbs_mul]; exact lt_mul h.2 h'.1⟩
theorem Sz.add {n m : Nat} {t b t' b' : Int} (h : Sz n t b) (h' : Sz m t' b') : Sz (n + m + 1) (t * b' + t' * b) (b * b') := by
  have h1 := lt_mul h.1 h'.2
  have h2 := lt_mul h'.1 h.2
  rw [Nat.add_comm m n] at h2
  have h3 := Int.natAbs_add_le (t * b') (t' * b)
  rw [Int.natAbs_mul, Int.natAbs_mul] at h3
  refine ⟨by rw [Nat.pow_succ]; omega, ?_⟩
  rw [Int.natAbs_mul]
  exact Nat.lt_of_lt_of_le (lt_mul h.2 h'.2) (Nat.pow_le_pow_right (by decide) (Nat.le_succ _))
theorem Sz.neg {n : Nat} {t b : Int} (h : Sz n t b) : Sz n (-t) b := ⟨by rw [Int.natAbs_neg]; exact h.1, h.2⟩
theorem Sz.low {n : Nat} {t b : Int} (h : Sz n t b) (hb : b ≠ 0) : Sz n (lowT t b) (lowB t b) := ⟨Nat.lt_of_le_of_lt (lowT_le hb) h.1, Nat.lt_of_le_of_lt (lowB_le hb) h.2⟩
/-- the ratio of this value stands at p -/
def RV (C : Addr) (H : Hp) (p : Addr) (x : Rat) (n : Nat) : Prop := ∃ t b, RatAt C H p t b ∧ Low t b ∧ vq t b = x ∧ Sz n t b
/-- a ratio or an int of this value -/
def NV (C : Addr) (H : Hp) (v : V) (x : Rat) (n : Nat) : Prop := ∃ t b, Num C H v t b ∧ Low t b ∧ vq t b = x ∧ Sz n t b
/-- the law's pair of this value -/
def PV (H : Hp) (q : Addr) (x : Rat) (n : Nat) : Prop := ∃ t b, PairAt H q t b ∧ Low t b ∧ vq t b = x ∧ Sz n t b
theorem PairAt.on' {H H' : Hp} {q : Addr} {t b : Int} (p : PairAt H q t b) (s : Same H H') : PairAt H' q t b := s _ _ p
theorem RV.on {C : Addr} {H H' : Hp} {p : Addr} {x : Rat} {n : Nat} (r : RV C H p x n) (s : Same H H') : RV C H' p x n := let ⟨t, b, h1, h2⟩ := r; ⟨t, b, h1.on s, h2⟩
theorem NV.on {C : Addr} {H H' : Hp} {p : V} {x : Rat} {n : Nat} (r : NV C H p x n) (s : Same H H') : NV C H' p x n := let ⟨t, b, h1, h2⟩ := r; ⟨t, b, h1.on s, h2⟩
theorem PV.on {H H' : Hp} {p : Addr} {x : Rat} {n : Nat} (r : PV H p x n) (s : Same H H') : PV H' p x n := let ⟨t, b, h1, h2⟩ := r; ⟨t, b, h1.on' s, h2⟩
theorem RV.mono {C : Addr} {H : Hp} {p : Addr} {x : Rat} {n m : Nat} (r : RV C H p x n) (h : n ≤ m) : RV C H p x m := let ⟨t, b, h1, h2, h3, h4⟩ := r; ⟨t, b, h1, h2, h3, h4.mono h⟩
theorem NV.mono {C : Addr} {H : Hp} {p : V} {x : Rat} {n m : Nat} (r : NV C H p x n) (h : n ≤ m) : NV C H p x m := let ⟨t, b, h1, h2, h3, h4⟩ := r; ⟨t, b, h1, h2, h3, h4.mono h⟩
theorem PV.mono {H : Hp} {p : Addr} {x : Rat} {n m : Nat} (r : PV H p x n) (h : n ≤ m) : PV H p x m := let ⟨t, b, h1, h2, h3, h4⟩ := r; ⟨t, b, h1, h2, h3, h4.mono h⟩
theorem RV.num {C : Addr} {H : Hp} {p : Addr} {x : Rat} {n : Nat} (r : RV C H p x n) : NV C H (.ref p) x n := let ⟨t, b, h1, h2⟩ := r; ⟨t, b, .inr ⟨p, rfl, h1⟩, h2⟩
theorem vq_one (t : Int) : vq t 1 = (t : Rat) := by
  unfold vq
  push_cast
  grind
theorem NV.int {C : Addr} {H : Hp} {n : Nat} (t : Int) (h : t.natAbs < 2 ^ n) (hn : 1 ≤ n) : NV C H (.int t) (t : Rat) n := ⟨t, 1, .inl ⟨rfl, rfl⟩, Low.one t, vq_one t, h, Nat.lt_of_lt_of_le (show 1 < 2 ^ 1 by decide) (Nat.pow_le_pow_right (by decide) hn)⟩
/-- both are ratios -/
def ResV (C : Addr) (H : Hp) (x : Rat) (n : Nat) (Q : VK) : Prop := ∀ q H', H q = none → Same H H' → RV C H' q x n → Q (.ref q) H'
def ResPV (H : Hp) (x : Rat) (n : Nat) (Q : VK) : Prop := ∀ q H', H q = none → Same H H' → PV H' q x n → Q (.ref q) H'
def spAsV (C : Addr) : Sp := fun vs H Q _ => ∃ (v : V) (x : Rat) (n : Nat), vs = [v] ∧ NV C H v x n ∧ ∀ p H', Same H H' → RV C H' p x n → Q (.ref p) H'
def spEqV (C : Addr) : Sp := fun vs H Q _ => ∃ (p q : Addr) (x y : Rat) (n m : Nat), vs = [.ref p, .ref q] ∧ RV C H p x n ∧ RV C H q y m ∧ Q (.bl (decide (x = y))) H
theorem okv_as (T : Txt K mg) : FnOk P w K mg base CX0 3 T.f_as_ratio T.d_as_ratio ["value"] (spAsV T.f_Ratio) := (ok_asN T).imp fun vs H Q E ⟨v, x, n, e, ⟨t, b, nm, l, ev, sz⟩, k⟩ =>
  ⟨v, t, b, e, nm, fun p H' s r => k p H' s ⟨t, b, r, l, ev, sz⟩⟩
theorem okv_eq (T : Txt K mg) : FnOk P w K mg base CX0 1 T.f_Ratio_eq T.d_Ratio_eq ["self", "other"] (spEqV T.f_Ratio) := (ok_eqB T).imp fun vs H Q E ⟨p, q, x, y, n, m, e, ⟨t, b, r, l, ev, sz⟩, ⟨t', b', r', l', ev', sz'⟩, k⟩ =>
  ⟨p, q, t, b, t', b', e, r, r', by
    have hd : decide (t = t' ∧ b = b') = decide (x = y) := decide_eq_decide.mpr ⟨fun ⟨h1, h2⟩ => by rw [← ev, ← ev', h1, h2], fun h => low_unique l l' (by rw [ev, ev', h])⟩
    rw [hd]
    exact k⟩
/-! the law's pairs -/
def spPlusV : Sp := fun vs H Q _ => ∃ (q q' : Addr) (x x' : Rat) (n n' : Nat), vs = [.ref q, .ref q'] ∧ PV H q x n ∧ PV H q' x' n' ∧ n ≤ 3900 ∧ n' ≤ 3900 ∧ ResPV H (x + x') (n + n' + 1) Q
def spTimesV : Sp := fun vs H Q _ => ∃ (q q' : Addr) (x x' : Rat) (n n' : Nat), vs = [.ref q, .ref q'] ∧ PV H q x n ∧ PV H q' x' n' ∧ n ≤ 3900 ∧ n' ≤ 3900 ∧ ResPV H (x * x') (n + n') Q
def spMinusV : Sp := fun vs H Q _ => ∃ (q q' : Addr) (x x' : Rat) (n n' : Nat), vs = [.ref q, .ref q'] ∧ PV H q x n ∧ PV H q' x' n' ∧ n ≤ 3900 ∧ n' ≤ 3900 ∧ ResPV H (x - x') (n + n' + 1) Q
def spLessV : Sp := fun vs H Q _ => ∃ (q q' : Addr) (x x' : Rat) (n n' : Nat), vs = [.ref q, .ref q'] ∧ PV H q x n ∧ PV H q' x' n' ∧ n ≤ 3900 ∧ n' ≤ 3900 ∧ Q (.bl (decide (x < x'))) H
def spLowV : Sp := fun vs H Q _ => ∃ (t b : Int) (n : Nat), vs = [.int t, .int b] ∧ b ≠ 0 ∧ Sz n t b ∧ n ≤ 7900 ∧ ResPV H (vq t b) n Q
def spIsV (C : Addr) : Sp := fun vs H Q _ => ∃ (p q : Addr) (x : Rat) (n m : Nat), vs = [.ref p, .ref q] ∧ RV C H p x n ∧ PV H q x m ∧ ∀ H', Same H H' → Q (.bl true) H'
theorem okv_plus (T : Txt K mg) : FnOk P w K mg base CX0 2 T.f_plus T.d_plus ["_law_one", "_law_two"] spPlusV := (ok_plus T).imp fun vs H Q E ⟨p, y, x, x', n, n', e, ⟨t, b, r, l, ev, sz⟩, ⟨t', b', nm, l', ev', sz'⟩, hn, hn', k⟩ =>
  ⟨p, y, t, b, t', b', e, r, nm, (sz.sm hn).1, (sz.sm hn).2, (sz'.sm hn').1, (sz'.sm hn').2, l.ne, l'.ne, fun q H' nq s rq => k q H' nq s ⟨_, _, rq, Low.of (Int.mul_ne_zero l.ne l'.ne), by rw [vq_low (Int.mul_ne_zero l.ne l'.ne), vq_add l.ne l'.ne, ev, ev'], (sz.add sz').low (Int.mul_ne_zero l.ne l'.ne)⟩⟩
theorem okv_low (T : Txt K mg) : FnOk P w K mg base CX0 1 T.f_low T.d_low ["_law_up", "_law_down"] spLowV := (ok_low T).imp fun vs H Q E ⟨t, b, n, e, hb, sz, hn, k⟩ =>
  ⟨t, b, e, hb, Nat.lt_of_lt_of_le sz.2 (Nat.pow_le_pow_right (by decide) (by omega)), fun p H' np s hp => k p H' np s ⟨_, _, hp, Low.of hb, vq_low hb, sz.low hb⟩⟩
end

section
variable {P : Program} {w : World} {K : PySem.W.Frag} {mg : Str → Option Value} {base : Heap}
theorem okv_is (T : Txt K mg) : FnOk P w K mg base CX0 3 T.f_is T.d_is ["_law_actual", "_law_pair"] (spIsV T.f_Ratio) := (ok_is T).imp fun vs H Q E ⟨p, q, x, n, m, e, ⟨t, b, r, l, ev, sz⟩, ⟨t', b', r', l', ev', sz'⟩, k⟩ => by
  obtain ⟨h1, h2⟩ := low_unique l l' (ev.trans ev'.symm)
  exact ⟨p, q, t, b, e, r, by rw [h1, h2]; exact r', k⟩
end

def Fine (v : Int × Int) : Prop := Low v.1 v.2 ∧ SM v.1 ∧ SM v.2
section
variable {P : Program} {w : World} {K : PySem.W.Frag} {mg : Str → Option Value} {base : Heap}
/-- what stands behind and is no list is known from then on -/
theorem DSt.grow {G H : Hp} {s : Addr} {m : Nat} (d : DSt G H s m) : ∃ G', DSt G' H s m ∧ Same G G' ∧ ∀ a o, H a = some o → (∀ xs, o ≠ .lst xs) → G' a = some o := by
  obtain ⟨b, c, gs, cs, n, d, hn⟩ := d
  have gl : ∀ a xs, G a = none → H a = some (.lst xs) → (match G a with | some o => some o | none => match H a with | some (.lst _) => none | x => x) = none := fun a xs e1 e2 => by rw [e1, e2]
  refine ⟨fun a => match G a with | some o => some o | none => match H a with | some (.lst _) => none | x => x, ⟨b, c, gs, cs, n, ⟨fun a o e => ?_, gl _ _ d.fs d.hs, gl _ _ d.fb d.hb, gl _ _ d.fc d.hc, d.hs, d.hb, d.hc, d.ne, d.pos⟩, hn⟩, fun a o e => ?_, fun a o e ne => ?_⟩
  · cases eg : G a with
    | some o' =>
      simp only [eg] at e
      rw [← e]
      exact d.same a _ eg
    | none =>
      simp only [eg] at e
      cases eh : H a with
      | none => rw [eh] at e; cases e
      | some o' =>
        rw [eh] at e
        cases o' <;> first | exact e | cases e
  · show (match G a with | some o => some o | none => match H a with | some (.lst _) => none | x => x) = some o
    rw [e]
  · show (match G a with | some o => some o | none => match H a with | some (.lst _) => none | x => x) = some o
    cases eg : G a with
    | some o' =>
      have := d.same a _ eg
      rw [e] at this
      exact this.symm
    | none =>
      simp only
      rw [e]
      cases o with
      | lst xs => exact absurd rfl (ne xs)
      | _ => rfl
end

/-! ### values -/
section
variable {P : Program} {w : World} {K : PySem.W.Frag} {mg : Str → Option Value} {base : Heap}
theorem PairAt.on {H H' : Hp} {q : Addr} {t b : Int} (p : PairAt H q t b) (s : Same H H') : PairAt H' q t b := s _ _ p
theorem int_eq {a b : Int} (h : decide (V.int a = V.int b) = true) : a = b := by
  have := of_decide_eq_true h
  injection this
def spValue (C : Addr) : Sp := fun vs H Q _ => ∃ (st q : Addr) (t b : Int) (G : Hp) (m : Nat), vs = [.ref st, .ref q] ∧ PairAt G q t b ∧ Fine (t, b) ∧ DSt G H st m ∧ m + 2 < 1000000 ∧ ∀ v H', Num C H' v t b → (∀ p, v = .ref p → ∀ xs, H' p ≠ some (.lst xs)) → DSt G H' st (m + 2) → Q v H'
theorem ok_value (T : Txt K mg) : FnOk P w K mg base CX0 3 T.f_value T.d_value ["_law_state", "_law_pair"] (spValue T.f_Ratio) := by
  have G_draw : FnOk P w K mg base CX0 1 T.f_draw T.d_draw ["_law_state", "_law_size"] spDraw := ok_draw T
  have G_Ratio_init : FnOk P w K mg base CX0 1 T.f_Ratio_init T.d_Ratio_init ["self", "top", "bottom"] (spInit T.f_Ratio) := ok_init T
  refine T.F_value.ok sc_value (fun vs H Q E h => ?_) (fun cdv A outer s H vs Q E hr h => ?_)
  · obtain ⟨st, q, t, b, G, m, rfl, _⟩ := h
    rfl
  · obtain ⟨st, q, t, b, G, m, rfl, pq, hf, d, hm, k⟩ := h
    refine ⟨_, (pss_cons (ps_if (PW.pt (pw_and (pt_cmpR op_eq (pe_ix ix_tup (pv 1) pe_int (fun _ _ => rfl)) pe_int (nomark _)) (pw_and1 (pt_cmpR op_eq (pe_call G_draw (hr.mono (by decide)) rfl T.m_draw T.F_draw.kp T.b_draw .nil pass0 (pa_cons (pv 0) (pa_cons pe_int pa_nil))) pe_int (nomark _)))))
      (pss_one (ps_ret (pe_ix ix_tup (pv 1) pe_int (fun _ _ => rfl))))
      pss_nil)
    (pss_cons (ps_set (i := 2) sc_value.nd rfl (Or.inl rfl) (pe_op op_add pe_int (pe_call G_draw (hr.mono (by decide)) rfl T.m_draw T.F_draw.kp T.b_draw .nil pass0 (pa_cons (pv 0) (pa_cons pe_int pa_nil)))))
    (pss_one (ps_ret (pe_make T.mk_Ratio G_Ratio_init (hr.mono (by decide)) rfl T.m_Ratio T.b2_Ratio_init T.v2_Ratio_init pass0 (pa_cons (pe_op op_mulW (pe_ix ix_tup (pv 1) pe_int (fun _ _ => rfl)) (pv 2)) (pa_cons (pe_op op_mulW (pe_ix ix_tup (pv 1) pe_int (fun _ _ => rfl)) (pv 2)) pa_nil))))))), ?_⟩
    refine ⟨_, rfl, q, _, 1, .int b, rfl, rfl, SqT.of (pq.on d.same), rfl, rfl, _, rfl, ite2 (fun hb => ?_) fun _ => ?_⟩
    · refine ⟨_, rfl, G, st, m, 2, rfl, d, by omega, by decide, by decide, fun r H1 _ _ d1 => ⟨rfl, _, rfl, ite2 (fun _ => ?_) fun _ => ?_⟩⟩
      · exact ⟨_, rfl, q, _, 0, .int t, rfl, rfl, SqT.of (pq.on d1.same), rfl, k _ _ (.inl ⟨rfl, int_eq hb⟩) (fun p z => nomatch z) (d1.mono (by omega))⟩
      · refine ⟨_, rfl, G, st, m + 1, 3, rfl, d1, by omega, by decide, by decide, fun r H2 r0 r1 d2 => ?_⟩
        refine ⟨_, _, rfl, rfl, ?_⟩
        have hr1 : SM (1 + r) := Nat.lt_of_lt_of_le (show (1 + r).natAbs < 100 by omega) (by decide +kernel)
        have hz : (1 + r) ≠ 0 := by omega
        have p2 := pq.on d2.same
        refine ⟨_, rfl, q, _, 0, .int t, rfl, rfl, SqT.of p2, rfl, _, rfl, _, _, rfl, rfl, sm_mul hf.2.1 hr1, ?_⟩
        refine ⟨_, rfl, q, _, 1, .int b, rfl, rfl, SqT.of p2, rfl, _, rfl, _, _, rfl, rfl, sm_mul hf.2.2 hr1, ?_⟩
        refine fun x dx nx ndx ne => ⟨x, dx, t * (1 + r), b * (1 + r), rfl, upd_same, Int.mul_ne_zero hf.1.ne hz, big_mul hf.2.2 hr1, fun H3 r3 e3 => ⟨rfl, ?_⟩⟩
        have s3 := Same.made nx ndx e3
        have ls := low_scale (k := 1 + r) (t := t) (b := b) hz hf.1.ne
        rw [Int.mul_comm (1 + r) t, Int.mul_comm (1 + r) b] at ls
        have ht : lowT t b = t := hf.1.tt
        have hb : lowB t b = b := hf.1.bb
        rw [ls.1, ls.2, ht, hb] at r3
        refine k _ _ (.inr ⟨x, rfl, r3⟩) (fun p z xs e => ?_) ((d2.on s3).mono (by omega))
        injection z with z
        obtain ⟨d0, h0⟩ := r3
        rw [← z, h0] at e
        cases e
    · have d1 : DSt G H st (m + 1) := d.mono (by omega)
      refine ⟨_, rfl, G, st, m + 1, 3, rfl, d1, by omega, by decide, by decide, fun r H2 r0 r1 d2 => ?_⟩
      refine ⟨_, _, rfl, rfl, ?_⟩
      have hr1 : SM (1 + r) := Nat.lt_of_lt_of_le (show (1 + r).natAbs < 100 by omega) (by decide +kernel)
      have hz : (1 + r) ≠ 0 := by omega
      have p2 := pq.on d2.same
      refine ⟨_, rfl, q, _, 0, .int t, rfl, rfl, SqT.of p2, rfl, _, rfl, _, _, rfl, rfl, sm_mul hf.2.1 hr1, ?_⟩
      refine ⟨_, rfl, q, _, 1, .int b, rfl, rfl, SqT.of p2, rfl, _, rfl, _, _, rfl, rfl, sm_mul hf.2.2 hr1, ?_⟩
      refine fun x dx nx ndx ne => ⟨x, dx, t * (1 + r), b * (1 + r), rfl, upd_same, Int.mul_ne_zero hf.1.ne hz, big_mul hf.2.2 hr1, fun H3 r3 e3 => ⟨rfl, ?_⟩⟩
      have s3 := Same.made nx ndx e3
      have ls := low_scale (k := 1 + r) (t := t) (b := b) hz hf.1.ne
      rw [Int.mul_comm (1 + r) t, Int.mul_comm (1 + r) b] at ls
      have ht : lowT t b = t := hf.1.tt
      have hb : lowB t b = b := hf.1.bb
      rw [ls.1, ls.2, ht, hb] at r3
      refine k _ _ (.inr ⟨x, rfl, r3⟩) (fun p z xs e => ?_) ((d2.on s3).mono (by omega))
      injection z with z
      obtain ⟨d0, h0⟩ := r3
      rw [← z, h0] at e
      cases e
end

/-! ### draws by values -/
section
variable {P : Program} {w : World} {K : PySem.W.Frag} {mg : Str → Option Value} {base : Heap}
def spValueV (C : Addr) : Sp := fun vs H Q _ => ∃ (st q : Addr) (x : Rat) (n : Nat) (G : Hp) (m : Nat), vs = [.ref st, .ref q] ∧ PV G q x n ∧ n ≤ 3900 ∧ DSt G H st m ∧ m + 2 < 1000000 ∧ ∀ v H', NV C H' v x n → (∀ p, v = .ref p → ∀ xs, H' p ≠ some (.lst xs)) → DSt G H' st (m + 2) → Q v H'
theorem okv_value (T : Txt K mg) : FnOk P w K mg base CX0 3 T.f_value T.d_value ["_law_state", "_law_pair"] (spValueV T.f_Ratio) := (ok_value T).imp fun vs H Q E ⟨st, q, x, n, G, m, e, ⟨t, b, pa, l, ev, sz⟩, hn, d, hm, k⟩ =>
  ⟨st, q, t, b, G, m, e, pa, ⟨l, (sz.sm hn).1, (sz.sm hn).2⟩, d, hm, fun v H' nu nl d' => k v H' ⟨t, b, nu, l, ev, sz⟩ nl d'⟩
/-- what is no list is known -/
def NL (H G : Hp) : Prop := ∀ a o, H a = some o → (∀ xs, o ≠ .lst xs) → G a = some o
theorem RV.nl {C : Addr} {H G : Hp} {p : Addr} {x : Rat} {n : Nat} (r : RV C H p x n) (h : NL H G) : RV C G p x n := let ⟨t, b, ⟨dx, e⟩, h2⟩ := r; ⟨t, b, ⟨dx, h _ _ e (fun _ z => nomatch z)⟩, h2⟩
theorem NV.nl {C : Addr} {H G : Hp} {v : V} {x : Rat} {n : Nat} (r : NV C H v x n) (h : NL H G) : NV C G v x n := by
  obtain ⟨t, b, nm, h2⟩ := r
  refine ⟨t, b, ?_, h2⟩
  rcases nm with e | ⟨p, e, dx, hp⟩
  · exact .inl e
  · exact .inr ⟨p, e, dx, h _ _ hp (fun _ z => nomatch z)⟩
theorem PV.nl {H G : Hp} {q : Addr} {x : Rat} {n : Nat} (r : PV H q x n) (h : NL H G) : PV G q x n := let ⟨t, b, e, h2⟩ := r; ⟨t, b, h _ _ e (fun _ z => nomatch z), h2⟩
end

/-! ### names -/
def lets : Str := "abcdefghijklmnopqrstuvwxyz"
def digs : Str := "0123456789"
def inNm (c : Nat) : Bool := decide (c ∈ lets.cps.toList) || decide (c ∈ digs.cps.toList)
def Wn (z : Str) : Prop := z.length ≤ 1000 ∧ ∀ c ∈ z.cps.toList, c < 128
def vnL : List Nat → Bool
  | [] => false
  | c :: r => decide (c ∈ lets.cps.toList) && (c :: r).all inNm
def vn (z : Str) : Bool := decide (1 ≤ z.length ∧ z.length ≤ 6) && vnL z.cps.toList
section
variable {P : Program} {w : World} {K : PySem.W.Frag} {mg : Str → Option Value} {base : Heap}
def spName : Sp := fun vs H Q _ => ∃ z : Str, vs = [.str z] ∧ z.length ≤ 1000 ∧ (∀ c ∈ z.cps.toList, c < 128) ∧ ∀ H', Same H H' → Q (.bl (vn z)) H'
theorem head_of {z : Str} (h : 1 ≤ z.length) : ∃ c r, z.cps.toList = c :: r := by
  cases e : z.cps.toList with
  | nil =>
    have : z.length = z.cps.toList.length := by simp [Str.length]
    rw [e] at this
    rw [this] at h
    exact absurd h (by decide)
  | cons c r => exact ⟨c, r, rfl⟩
theorem len_of (z : Str) : z.length = z.cps.toList.length := by simp [Str.length]
theorem vn_eq {z : Str} {c : Nat} {r : List Nat} (h : 1 ≤ z.length ∧ z.length ≤ 6) (ez : z.cps.toList = c :: r) (hl : decide (c ∈ lets.cps.toList) = true) : vn z = (c :: r).all inNm := by
  unfold vn
  rw [decide_eq_true h, Bool.true_and, ez]
  show (decide (c ∈ lets.cps.toList) && (c :: r).all inNm) = _
  rw [hl, Bool.true_and]
theorem vn_no {z : Str} {c : Nat} {r : List Nat} (ez : z.cps.toList = c :: r) (hl : ¬ decide (c ∈ lets.cps.toList) = true) : vn z = false := by
  unfold vn
  rw [ez]
  show (_ && (decide (c ∈ lets.cps.toList) && (c :: r).all inNm)) = false
  rw [Bool.eq_false_iff.mpr hl, Bool.false_and, Bool.and_false]
theorem vn_len {z : Str} (h : ¬ (1 ≤ z.length ∧ z.length ≤ 6)) : vn z = false := by
  unfold vn
  rw [decide_eq_false h, Bool.false_and]
end

section
theorem log_small {n : Int} (h : n.natAbs < 10 ^ 64) : n.natAbs.log2 < 1920 := Nat.lt_of_lt_of_le (PySem.Flt.log2_lt_of (k := 300) (by decide) (Nat.lt_of_lt_of_le h (by decide +kernel))) (by decide)
end

/-! ### drawn names -/
def sgs : Str := "abcdefghijklmnopqrstuvwxyz0123456789"
def sgn (c : Nat) : V := .str ⟨#[c]⟩
theorem sgn_map (l : List Nat) : l.map sgn = (l.map fun c => (⟨#[c]⟩ : Str)).map V.str := by
  rw [List.map_map]
  rfl
theorem sgs_len : sgs.length = 36 := by decide +kernel
theorem sgs_all : (sgs.cps.toList.all fun c => inNm c && decide (c < 128)) = true := by decide +kernel
theorem sgs_26 : ((List.range 26).all fun i => decide (sgs.cps.toList[i]? = some (97 + i)) && decide (97 + i ∈ lets.cps.toList)) = true := by decide +kernel
theorem sgs_at {i : Nat} (h : i < 26) : sgs.cps.toList[i]? = some (97 + i) ∧ 97 + i ∈ lets.cps.toList := by
  have := List.all_eq_true.mp sgs_26 i (List.mem_range.mpr h)
  rw [Bool.and_eq_true, decide_eq_true_eq, decide_eq_true_eq] at this
  exact this
theorem sgs_mem {c : Nat} (h : c ∈ sgs.cps.toList) : inNm c = true ∧ c < 128 := by
  have := List.all_eq_true.mp sgs_all c h
  rw [Bool.and_eq_true, decide_eq_true_eq] at this
  exact this
/-- a sign at a drawn place -/
theorem sgs_draw {r : Int} (h0 : 0 ≤ r) (h1 : r < 36) : ∃ c, atI sgs.cps.toList r = some c ∧ c ∈ sgs.cps.toList := by
  have hl := len_of sgs
  rw [sgs_len] at hl
  obtain ⟨j, rfl⟩ : ∃ j : Nat, r = (j : Int) := ⟨r.toNat, by omega⟩
  have hj : j < sgs.cps.toList.length := by omega
  exact ⟨sgs.cps.toList[j], atI_nat (List.getElem?_eq_getElem hj), List.getElem_mem hj⟩
theorem sgs_draw26 {r : Int} (h0 : 0 ≤ r) (h1 : r < 26) : ∃ j : Nat, j < 26 ∧ atI sgs.cps.toList r = some (97 + j) ∧ r = (j : Int) := by
  obtain ⟨j, rfl⟩ : ∃ j : Nat, r = (j : Int) := ⟨r.toNat, by omega⟩
  exact ⟨j, by omega, atI_nat (sgs_at (by omega)).1, rfl⟩
theorem join_cps (l : List Nat) : Txt.join ⟨#[]⟩ (l.map fun c => (⟨#[c]⟩ : Str)) = ⟨l.toArray⟩ := by
  refine TL.ext_tl ?_
  rw [TL.join_eq]
  induction l with
  | nil => rfl
  | cons a r ih =>
    cases r with
    | nil => rfl
    | cons b q =>
      show TL.tl ((⟨#[a]⟩ : Str) ++ ⟨#[]⟩ ++ Str.join ⟨#[]⟩ ((b :: q).map fun c => (⟨#[c]⟩ : Str))) = _
      rw [TL.tl_append, TL.tl_append, ih]
      rfl
theorem sum_ones (l : List Nat) : ((l.map fun c => (⟨#[c]⟩ : Str)).map (·.length)).sum = l.length := by
  induction l with
  | nil => rfl
  | cons a r ih =>
    rw [List.map_cons, List.map_cons, List.sum_cons, ih, List.length_cons]
    show 1 + r.length = r.length + 1
    omega
/-- the sign of the k-th name -/
def sgIx (o sd : Int) (k : Nat) : Nat := ((o + sd * (k : Int)) % 26).toNat
theorem sgIx_lt (o sd : Int) (k : Nat) : sgIx o sd k < 26 := by
  unfold sgIx
  omega
def Stride (sd : Int) : Prop := sd = 1 ∨ sd = 3 ∨ sd = 5 ∨ sd = 7 ∨ sd = 9 ∨ sd = 11
theorem sgIx_inj {o sd : Int} (hs : Stride sd) {j k : Nat} (hj : j < 26) (hk : k < 26) (h : sgIx o sd j = sgIx o sd k) : j = k := by
  unfold sgIx at h
  rcases hs with rfl | rfl | rfl | rfl | rfl | rfl <;> omega
/-- the k-th name, by its code points -/
def wdCps (stem : List Nat) (lt : Nat) (o sd p : Int) (k : Nat) : List Nat :=
  if p % 2 = 0 then (97 + lt) :: ((if 1 < p ∧ k % 2 = 1 then [] else stem) ++ [97 + sgIx o sd k]) else (97 + sgIx o sd k) :: (if 1 < p ∧ k % 2 = 1 then [] else stem)
def wdAt (stem : List Nat) (lt : Nat) (o sd p : Int) (k : Nat) : Str := ⟨(wdCps stem lt o sd p k).toArray⟩
structure NamesOk (ws : List Str) (n : Nat) : Prop where
  len : ws.length = n
  nd : ws.Nodup
  ok : ∀ z ∈ ws, vn z = true ∧ Wn z
theorem lets_nm {i : Nat} (h : i < 26) : inNm (97 + i) = true ∧ 97 + i < 128 := by
  refine ⟨?_, by omega⟩
  unfold inNm
  rw [decide_eq_true (sgs_at h).2, Bool.true_or]
theorem wd_ok {stem : List Nat} {lt : Nat} {o sd p : Int} {k : Nat} (hs : stem.length ≤ 4) (hm : ∀ c ∈ stem, c ∈ sgs.cps.toList) (hlt : lt < 26) : vn (wdAt stem lt o sd p k) = true ∧ Wn (wdAt stem lt o sd p k) := by
  have hi := sgIx_lt o sd k
  have hr : ∀ c ∈ (if 1 < p ∧ k % 2 = 1 then [] else stem), inNm c = true ∧ c < 128 := by
    intro c hc
    split at hc
    · cases hc
    · exact sgs_mem (hm c hc)
  have hrl : (if 1 < p ∧ k % 2 = 1 then [] else stem : List Nat).length ≤ 4 := by
    split
    · exact Nat.zero_le _
    · exact hs
  have all : ∀ c ∈ wdCps stem lt o sd p k, inNm c = true ∧ c < 128 := by
    intro c hc
    unfold wdCps at hc
    split at hc
    · rcases List.mem_cons.mp hc with h | h
      · rw [h]; exact lets_nm hlt
      · rcases List.mem_append.mp h with h | h
        · exact hr c h
        · rw [List.mem_singleton.mp h]; exact lets_nm hi
    · rcases List.mem_cons.mp hc with h | h
      · rw [h]; exact lets_nm hi
      · exact hr c h
  have len : 1 ≤ (wdCps stem lt o sd p k).length ∧ (wdCps stem lt o sd p k).length ≤ 6 := by
    unfold wdCps
    split
    · rw [List.length_cons, List.length_append, List.length_singleton]; omega
    · rw [List.length_cons]; omega
  have hd : ∃ c r, wdCps stem lt o sd p k = c :: r ∧ c ∈ lets.cps.toList := by
    unfold wdCps
    split
    · exact ⟨_, _, rfl, (sgs_at hlt).2⟩
    · exact ⟨_, _, rfl, (sgs_at hi).2⟩
  obtain ⟨c, r, ec, hc⟩ := hd
  have el : (wdAt stem lt o sd p k).length = (wdCps stem lt o sd p k).length := by rw [len_of]; rfl
  refine ⟨?_, by rw [el]; omega, fun c hc => (all c hc).2⟩
  rw [vn_eq (z := wdAt stem lt o sd p k) (by rw [el]; exact len) (show (wdAt stem lt o sd p k).cps.toList = c :: r from ec) (decide_eq_true hc)]
  exact List.all_eq_true.mpr fun x hx => (all x (ec ▸ hx)).1
theorem wd_inj {stem : List Nat} {lt : Nat} {o sd p : Int} (hs : Stride sd) {j k : Nat} (hj : j < 26) (hk : k < 26) (h : wdAt stem lt o sd p j = wdAt stem lt o sd p k) : j = k := by
  have e : wdCps stem lt o sd p j = wdCps stem lt o sd p k := by
    have := congrArg (fun z : Str => z.cps.toList) h
    exact this
  refine sgIx_inj (o := o) hs hj hk ?_
  unfold wdCps at e
  split at e
  · have e2 := congrArg List.getLast? (List.cons.inj e).2
    rw [List.getLast?_concat, List.getLast?_concat] at e2
    have := Option.some.inj e2
    omega
  · have := (List.cons.inj e).1
    omega
theorem wds_ok {stem : List Nat} {lt : Nat} {o sd p : Int} {n : Nat} (hs : stem.length ≤ 4) (hm : ∀ c ∈ stem, c ∈ sgs.cps.toList) (hlt : lt < 26) (hsd : Stride sd) (hn : n ≤ 26) : NamesOk ((List.range n).map (wdAt stem lt o sd p)) n where
  len := by rw [List.length_map, List.length_range]
  nd := by
    refine List.pairwise_map.mpr (List.Pairwise.imp_of_mem (R := (· < ·)) (fun {a b} ha hb hlt h => ?_) List.pairwise_lt_range)
    have := wd_inj hsd (Nat.lt_of_lt_of_le (List.mem_range.mp ha) hn) (Nat.lt_of_lt_of_le (List.mem_range.mp hb) hn) h
    omega
  ok := fun z hz => by
    obtain ⟨k, _, rfl⟩ := List.mem_map.mp hz
    exact wd_ok hs hm hlt

section
variable {P : Program} {w : World} {K : PySem.W.Frag} {mg : Str → Option Value} {base : Heap}
def spNms : Sp := fun vs H Q _ => ∃ (G : Hp) (st : Addr) (m n : Nat), vs = [.ref st, .int (n : Int)] ∧ DSt G H st m ∧ m < 900000 ∧ n ≤ 26 ∧
  ∀ (l : Addr) (ws : List Str) (H' : Hp), G l = none → DSt (upd G l (.lst (ws.map V.str))) H' st (m + 9) → NamesOk ws n → Q (.ref l) H'
theorem six {r : Int} (h0 : 0 ≤ r) (h1 : r < 6) : ∃ v : Int, atI [V.int 1, .int 3, .int 5, .int 7, .int 9, .int 11] r = some (.int v) ∧ Stride v := by
  have h : r = 0 ∨ r = 1 ∨ r = 2 ∨ r = 3 ∨ r = 4 ∨ r = 5 := by omega
  rcases h with rfl | rfl | rfl | rfl | rfl | rfl
  · exact ⟨1, rfl, .inl rfl⟩
  · exact ⟨3, rfl, .inr (.inl rfl)⟩
  · exact ⟨5, rfl, .inr (.inr (.inl rfl))⟩
  · exact ⟨7, rfl, .inr (.inr (.inr (.inl rfl)))⟩
  · exact ⟨9, rfl, .inr (.inr (.inr (.inr (.inl rfl))))⟩
  · exact ⟨11, rfl, .inr (.inr (.inr (.inr (.inr rfl))))⟩
theorem and_par {a b : Nat} {p : Int} {i : Nat} {σ : L2.St} {H : Hp} {Q : VK} (h8 : σ[a]? = some (some (.int p))) (h4 : σ[b]? = some (some (.int (0 + (i : Int))))) (q : Q (.bl (decide (1 < p ∧ i % 2 = 1))) H) :
    tAndV (tOp (rI0 fun i j => V.bl (decide (j < i))) (tVar a) (tC (V.int 1))) (tOp rEq (tOp (rI (fun x j => 0 < j) fun i j => V.int (i % j)) (tVar b) (tC (V.int 2))) (tC (V.int 1))) σ H Q := by
  refine ⟨_, h8, p, 1, rfl, rfl, _, rfl, ite2 (fun hp => ?_) fun hp => ?_⟩
  · have hp' : 1 < p := of_decide_eq_true hp
    refine ⟨_, h4, _, 2, rfl, rfl, by show (0 : Int) < 2; decide, rfl, ?_⟩
    by_cases hi : i % 2 = 1
    · rw [show decide (V.int ((0 + (i : Int)) % 2) = V.int 1) = true from decide_eq_true (by congr 1; omega)]
      rw [decide_eq_true ⟨hp', hi⟩] at q
      exact q
    · rw [show decide (V.int ((0 + (i : Int)) % 2) = V.int 1) = false from decide_eq_false (fun z => by have := V.int.inj z; omega)]
      rw [decide_eq_false (fun z => hi z.2)] at q
      exact q
  · have hp' : ¬ 1 < p := fun z => hp (decide_eq_true z)
    rw [decide_eq_false (fun z => hp' z.1)] at q
    exact q
theorem ok_nms (T : Txt K mg) : FnOk P w K mg base CX0 2 T.f_names T.d_names ["_law_state", "_law_count"] spNms := by
  have G_draw : FnOk P w K mg base CX0 1 T.f_draw T.d_draw ["_law_state", "_law_size"] spDraw := ok_draw T
  refine T.F_names.ok sc_names (fun vs H Q E h => ?_) (fun cdv A outer s H vs Q E hr h => ?_)
  · obtain ⟨G, st, m, n, rfl, _⟩ := h
    rfl
  · obtain ⟨G, st, m, n, rfl, d0, hm, hn, k⟩ := h
    refine ⟨_, (pss_cons (ps_set (i := 2) sc_names.nd rfl (Or.inr rfl) pe_str)
    (pss_cons (ps_set (i := 3) sc_names.nd rfl (Or.inl rfl) (pe_join pe_str (pe_lc (own := [("_law_k", 4)]) (g := gName 4) (tt := tYes) rfl sc_names.nd (pi_range1 rfl T.n_range (pa_cons (pe_call G_draw (hr.mono (by decide)) rfl T.m_draw T.F_draw.kp T.b_draw .nil pass0 (pa_cons (pv 0) (pa_cons pe_int pa_nil))) pa_nil)) (blkOk_by (N := ["_law_state", "_law_count", "_law_signs", "_law_stem", "_law_k", "_law_letter", "_law_offset", "_law_stride", "_law_plan", "_law_words", "_law_sign", "_law_rest"]) (sc := defScope s_names) (by decide +kernel)) (fun _ _ _ _ _ => pg_name (i := 4) sc_names.nd rfl (Or.inl rfl)) (fun _ _ _ _ _ => pts_nil) (fun _ _ _ _ _ => (pe_ix ix_str (pv 2) (pe_call G_draw (hr.mono (by decide)) rfl T.m_draw T.F_draw.kp T.b_draw .nil pass0 (pa_cons (pv 0) (pa_cons pe_int pa_nil))) (fun _ _ => rfl))))))
    (pss_cons (ps_set (i := 5) sc_names.nd rfl (Or.inl rfl) (pe_ix ix_str (pv 2) (pe_call G_draw (hr.mono (by decide)) rfl T.m_draw T.F_draw.kp T.b_draw .nil pass0 (pa_cons (pv 0) (pa_cons pe_int pa_nil))) (fun _ _ => rfl)))
    (pss_cons (ps_set (i := 6) sc_names.nd rfl (Or.inl rfl) (pe_call G_draw (hr.mono (by decide)) rfl T.m_draw T.F_draw.kp T.b_draw .nil pass0 (pa_cons (pv 0) (pa_cons pe_int pa_nil))))
    (pss_cons (ps_set (i := 7) sc_names.nd rfl (Or.inl rfl) (pe_ix ix_list (pe_lst (pa_cons pe_int (pa_cons pe_int (pa_cons pe_int (pa_cons pe_int (pa_cons pe_int (pa_cons pe_int pa_nil))))))) (pe_call G_draw (hr.mono (by decide)) rfl T.m_draw T.F_draw.kp T.b_draw .nil pass0 (pa_cons (pv 0) (pa_cons pe_int pa_nil))) (fun _ _ => rfl)))
    (pss_cons (ps_set (i := 8) sc_names.nd rfl (Or.inl rfl) (pe_call G_draw (hr.mono (by decide)) rfl T.m_draw T.F_draw.kp T.b_draw .nil pass0 (pa_cons (pv 0) (pa_cons pe_int pa_nil))))
    (pss_cons (ps_set (i := 9) sc_names.nd rfl (Or.inl rfl) (pe_lst pa_nil))
    (C8.pss_cut (ps_for PassesOwn.never rfl (pi_range1 rfl T.n_range (pa_cons (pv 1) pa_nil)) (pg_name (i := 4) sc_names.nd rfl (Or.inl rfl))
      (pss_cons (ps_set (i := 10) sc_names.nd rfl (Or.inl rfl) (pe_ix ix_str (pv 2) (pe_op op_mod (pe_callTy call_int1 (by rfl) T.n_int (by decide +kernel) (pa_cons (pe_op op_add (pv 6) (pe_op op_mulW (pv 7) (pv 4))) pa_nil)) pe_int) (fun _ _ => rfl)))
    (pss_cons (ps_set (i := 11) sc_names.nd rfl (Or.inl rfl) (pe_ix ix_list (pe_lst (pa_cons (pv 3) (pa_cons pe_str pa_nil))) (pe_callTy call_int1 (by rfl) T.n_int (by decide +kernel) (pa_cons (pe_and (pe_cmpR op_gt (pv 8) pe_int (nomark _)) (pe_one (pe_cmpR op_eq (pe_op op_mod (pv 4) pe_int) pe_int (nomark _)))) pa_nil)) (fun _ _ => rfl)))
    (pss_one (ps_expr (pe_bm PySem.F.plainAttrs_list PySem.F.slot_list_append PySem.F.type_list_append mt_append (pv 9) (pa_cons (pe_ix ix_list (pe_lst (pa_cons (pe_op op_add_str (pe_op op_add_str (pv 5) (pv 11)) (pv 10)) (pa_cons (pe_op op_add_str (pv 10) (pv 11)) pa_nil))) (pe_op op_mod (pe_callTy call_int1 (by rfl) T.n_int (by decide +kernel) (pa_cons (pv 8) pa_nil)) pe_int) (fun _ _ => rfl)) pa_nil)))))))
    (pss_one (ps_ret (pv 9))))))))))), ?_⟩
    have hsl : sgs.length ≤ sizeLine := Nat.le_of_lt (small1000 (by rw [sgs_len]; decide))
    refine ⟨⟨_, rfl⟩, _, rfl, ?_⟩
    refine ⟨G, st, m, 5, rfl, d0, by omega, by decide, by decide, fun r5 H1 r0 r1 d1 => ?_⟩
    obtain ⟨j, rfl⟩ : ∃ j : Nat, r5 = (j : Int) := ⟨r5.toNat, by omega⟩
    refine ⟨_, rfl, by omega, by omega, fun D hD => ?_⟩
    refine lc_range (lo := 0) (n := j) (fun i H6 => ∃ cs : List Nat, cs.length = i ∧ (∀ c ∈ cs, c ∈ sgs.cps.toList) ∧ DSt (upd G D (.lst (cs.map sgn))) H6 st (m + 1 + i)) ⟨[], rfl, by simp, d1.new hD⟩ ?_ ?_
    · intro i H6 hi ⟨cs, hc, hb, d6⟩
      refine ⟨rfl, _, rfl, _, rfl, _, st, m + 1 + i, 36, rfl, d6, by omega, by decide, by decide, fun z H7 z0 z1 d7 => ?_⟩
      obtain ⟨c, ec, c1⟩ := sgs_draw z0 z1
      refine ⟨sgs, z, c, rfl, rfl, hsl, ec, cs.map sgn, d7.same _ _ upd_same, small1000 (by rw [List.length_map]; omega), cs ++ [c], by rw [List.length_append, hc]; rfl, ?_, ?_⟩
      · intro x hx
        rcases List.mem_append.mp hx with hx | hx
        · exact hb x hx
        · rw [List.mem_singleton.mp hx]; exact c1
      · have := d7.put (o := .lst (cs.map sgn ++ [sgn c])) upd_same
        rw [upd_upd] at this
        rw [List.map_append]
        exact this
    rintro H6 ⟨cs, hc, hb, d6⟩
    have e6 : H6 D = some (.lst (cs.map sgn)) := d6.same _ _ upd_same
    have d6' : DSt G H6 st (m + 5) := (d6.less (same_upd (d1.free hD))).mono (by omega)
    refine ⟨⟨#[]⟩, D, cs.map fun c => (⟨#[c]⟩ : Str), rfl, rfl, .inl (SqL.of (by rw [← sgn_map]; exact e6)), ?_, ?_⟩
    · rw [sum_ones]
      show cs.length + _ * 0 ≤ _
      omega
    rw [join_cps]
    have hcs : cs.length ≤ 4 := by omega
    -- letter
    refine ⟨_, rfl, _, rfl, G, st, m + 5, 26, rfl, d6', by omega, by decide, by decide, fun z H7 z0 z1 d7 => ?_⟩
    obtain ⟨lt, hlt, elt, rfl⟩ := sgs_draw26 z0 z1
    refine ⟨sgs, _, 97 + lt, rfl, rfl, hsl, elt, ?_⟩
    -- offset
    refine ⟨_, rfl, G, st, m + 6, 26, rfl, d7, by omega, by decide, by decide, fun o H8 o0 o1 d8 => ?_⟩
    -- stride
    refine ⟨by show 6 ≤ sizeLine; decide, fun l6 nl6 => ?_⟩
    refine ⟨_, rfl, upd G l6 _, st, m + 7, 6, rfl, d8.new nl6, by omega, by decide, by decide, fun q H9 q0 q1 d9 => ?_⟩
    obtain ⟨sd, esd, hsd⟩ := six q0 q1
    refine ⟨l6, _, q, .int sd, rfl, rfl, SqL.of (d9.same _ _ upd_same), esd, ?_⟩
    have d9' := d9.less (same_upd (d8.free nl6))
    -- plan
    refine ⟨_, rfl, G, st, m + 8, 4, rfl, d9', by omega, by decide, by decide, fun p H10 p0 p1 d10 => ?_⟩
    refine ⟨Nat.zero_le _, fun W nW => ?_⟩
    have d11 := d10.new (o := .lst []) nW
    have nWG := d10.free nW
    refine ⟨fun σ H' => ∃ x4 x10 x11, σ = [some (.ref st), some (.int n), some (.str sgs), some (.str ⟨cs.toArray⟩), x4, some (.str ⟨#[97 + lt]⟩), some (.int o), some (.int sd), some (.int p), some (.ref W), x10, x11] ∧ DSt (upd G W (.lst (((List.range n).map (wdAt cs lt o sd p)).map V.str))) H' st (m + 9), ?_, ?_⟩
    · refine ⟨_, rfl, _, rfl, by omega, by omega, ?_⟩
      refine for_range (lo := 0) (n := n) (fun i σ H' => ∃ x4 x10 x11, σ = [some (.ref st), some (.int n), some (.str sgs), some (.str ⟨cs.toArray⟩), x4, some (.str ⟨#[97 + lt]⟩), some (.int o), some (.int sd), some (.int p), some (.ref W), x10, x11] ∧ DSt (upd G W (.lst (((List.range i).map (wdAt cs lt o sd p)).map V.str))) H' st (m + 9)) ⟨_, _, _, rfl, d11⟩ ?_ ?_
      · rintro i σ H' hi ⟨x4, x10, x11, rfl, d⟩
        have e0 : o + sd * (0 + (i : Int)) = o + sd * (i : Int) := by rw [Int.zero_add]
        have hx : ((o + sd * (0 + (i : Int))) % 26) = (sgIx o sd i : Int) := by
          rw [e0]; unfold sgIx; omega
        have hmul : CMulW sd (0 + (i : Int)) := by
          have a : sd.natAbs < 10 ^ 64 := by rcases hsd with rfl | rfl | rfl | rfl | rfl | rfl <;> decide
          have b : (0 + (i : Int)).natAbs < 10 ^ 64 := Nat.lt_of_le_of_lt (m := 26) (by omega) (by decide)
          have la := log_small a
          have lb := log_small b
          show _ + _ < 1000000
          omega
        refine ⟨_, rfl, _, rfl, _, rfl, _, rfl, sd, _, rfl, rfl, hmul, o, _, rfl, rfl, .inl ⟨_, rfl, _, 26, rfl, rfl, by show (0 : Int) < 26; decide, sgs, _, 97 + sgIx o sd i, rfl, rfl, hsl, ?_, ?_⟩⟩
        · rw [hx]; exact atI_nat (sgs_at (sgIx_lt o sd i)).1
        refine ⟨_, rfl, by show 2 ≤ sizeLine; decide, fun l2 nl2 => ?_⟩
        have dl2 := d.new (o := .lst [V.str ⟨cs.toArray⟩, V.str ""]) nl2
        refine and_par (p := p) (i := i) rfl rfl ?_
        refine .inr ⟨_, rfl, ?_⟩
        have hrest : ∃ rs : List Nat, rs = (if 1 < p ∧ i % 2 = 1 then [] else cs) ∧ rs.length ≤ 4 ∧ atI [V.str (⟨cs.toArray⟩ : Str), V.str ""] (if decide (1 < p ∧ i % 2 = 1) = true then 1 else 0) = some (V.str ⟨rs.toArray⟩) := by
          by_cases hb : 1 < p ∧ i % 2 = 1
          · rw [decide_eq_true hb, if_pos hb]
            exact ⟨[], rfl, Nat.zero_le _, rfl⟩
          · rw [decide_eq_false hb, if_neg hb]
            exact ⟨cs, rfl, hcs, rfl⟩
        obtain ⟨rs, ers, hrs, eat⟩ := hrest
        refine ⟨l2, _, _, _, rfl, rfl, SqL.of upd_same, eat, ?_⟩
        have dW : DSt (upd G W (.lst (((List.range i).map (wdAt cs lt o sd p)).map V.str))) (upd H' l2 (.lst [V.str ⟨cs.toArray⟩, V.str ""])) st (m + 9) := dl2.less (same_upd (d.free nl2))
        generalize upd H' l2 (.lst [V.str ⟨cs.toArray⟩, V.str ""]) = H2 at dW ⊢
        have hW2 := dW.same W _ upd_same
        have ln1 : (⟨#[97 + lt]⟩ : Str).length = 1 := by rw [len_of]; rfl
        have ln2 : (⟨#[97 + sgIx o sd i]⟩ : Str).length = 1 := by rw [len_of]; rfl
        have ln3 : (⟨rs.toArray⟩ : Str).length ≤ 4 := by rw [len_of]; exact hrs
        have ln4 : ((⟨#[97 + lt]⟩ : Str) ++ ⟨rs.toArray⟩).length ≤ 5 := by rw [len_of, Str.cps_append, Array.toList_append, List.length_append]; show 1 + rs.length ≤ 5; omega
        refine ⟨_, rfl, .inl ⟨rfl, _, SqL.of hW2⟩, _, rfl, _, rfl, _, _, rfl, rfl, Nat.le_of_lt (small1000 (by omega)), _, rfl, _, _, rfl, rfl, Nat.le_of_lt (small1000 (by omega)), _, rfl, _, rfl, _, _, rfl, rfl, Nat.le_of_lt (small1000 (by omega)), by show 2 ≤ sizeLine; decide, fun l3 nl3 => ?_⟩
        have dl3 := dW.new (o := .lst [V.str ((⟨#[97 + lt]⟩ : Str) ++ ⟨rs.toArray⟩ ++ ⟨#[97 + sgIx o sd i]⟩), V.str ((⟨#[97 + sgIx o sd i]⟩ : Str) ++ ⟨rs.toArray⟩)]) nl3
        have eat2 : atI [V.str ((⟨#[97 + lt]⟩ : Str) ++ ⟨rs.toArray⟩ ++ ⟨#[97 + sgIx o sd i]⟩), V.str ((⟨#[97 + sgIx o sd i]⟩ : Str) ++ ⟨rs.toArray⟩)] (p % 2) = some (V.str (wdAt cs lt o sd p i)) := by
          by_cases hp : p % 2 = 0
          · have ew : (⟨#[97 + lt]⟩ : Str) ++ ⟨rs.toArray⟩ ++ ⟨#[97 + sgIx o sd i]⟩ = wdAt cs lt o sd p i := by
              refine TL.ext_tl ?_
              rw [TL.tl_append, TL.tl_append]
              unfold wdAt wdCps
              rw [if_pos hp, ← ers]
              rfl
            rw [hp, ew]
            rfl
          · have hp1 : p % 2 = 1 := by omega
            have ew : (⟨#[97 + sgIx o sd i]⟩ : Str) ++ ⟨rs.toArray⟩ = wdAt cs lt o sd p i := by
              refine TL.ext_tl ?_
              rw [TL.tl_append]
              unfold wdAt wdCps
              rw [if_neg hp, ← ers]
              rfl
            rw [hp1, ew]
            rfl
        refine ⟨_, rfl, .inl ⟨_, rfl, _, 2, rfl, rfl, by show (0 : Int) < 2; decide, l3, _, _, _, rfl, rfl, SqL.of upd_same, eat2, ?_⟩⟩
        have dl3' := dl3.less (same_upd (dW.free nl3))
        have hW3 := dl3'.same W _ upd_same
        refine ⟨W, _, _, rfl, rfl, hW3, small1000 (by simp only [List.length_map, List.length_range]; omega), ?_⟩
        refine ⟨_, _, _, rfl, ?_⟩
        have dd := dl3'.put (o := .lst (((List.range i).map (wdAt cs lt o sd p)).map V.str ++ [V.str (wdAt cs lt o sd p i)])) upd_same
        rw [upd_upd] at dd
        rw [List.range_succ, List.map_append, List.map_append]
        exact dd
      · rintro σ H' ⟨x4, x10, x11, rfl, d⟩
        exact ⟨x4, x10, x11, rfl, d⟩
    · rintro σ H' ⟨x4, x10, x11, rfl, d⟩
      exact ⟨_, rfl, k W _ H' nWG d (wds_ok hcs hb hlt hsd hn)⟩
end

/-! ### dicts by name -/
section
variable {α : Type}
abbrev Tab (α : Type) := List (Str × α)
def nms (es : Tab α) : List Str := es.map (·.1)
def fnd (es : Tab α) (n : Str) : Option α := (es.find? fun e => decide (e.1 = n)).map (·.2)
def EntG (R : V → α → Prop) (kv : Key × V) (e : Str × α) : Prop := kv.1 = .inr e.1 ∧ R kv.2 e.2
theorem paired_on {α β : Type} {F G : α → β → Prop} (h : ∀ a b, F a b → G a b) : ∀ {xs : List α} {ys : List β}, Paired F xs ys → Paired G xs ys
  | _, _, .nil => .nil
  | _, _, .cons a r => .cons (h _ _ a) (paired_on h r)
theorem paired_snoc {α β : Type} {F : α → β → Prop} {a : α} {b : β} (h : F a b) : ∀ {xs : List α} {ys : List β}, Paired F xs ys → Paired F (xs ++ [a]) (ys ++ [b])
  | _, _, .nil => .cons h .nil
  | _, _, .cons a r => .cons a (paired_snoc h r)
theorem pair_at {α β : Type} {F : α → β → Prop} : ∀ {xs : List α} {ys : List β}, Paired F xs ys → ∀ {i : Nat} {x : α}, xs[i]? = some x → ∃ y, ys[i]? = some y ∧ F x y
  | _, _, .nil, i, x, h => by simp at h
  | _, _, .cons a r, 0, x, h => ⟨_, rfl, by rw [← Option.some.inj h]; exact a⟩
  | _, _, .cons a r, i + 1, x, h => pair_at r (i := i) h
theorem val_of {R : V → α → Prop} {n : Str} : ∀ {ks : List (Key × V)} {es : Tab α}, Paired (EntG R) ks es → (fnd es n = none ∧ valV ks (.inr n : Key) = none) ∨ ∃ x v, fnd es n = some x ∧ valV ks (.inr n : Key) = some v ∧ R v x
  | _, _, .nil => .inl ⟨rfl, rfl⟩
  | (k, v) :: ks, e :: es, .cons a r => by
    obtain ⟨h1, h2⟩ := a
    have h1 : k = .inr e.1 := h1
    subst h1
    by_cases q : e.1 = n
    · right
      refine ⟨e.2, v, ?_, valV_pos (by rw [q]), h2⟩
      unfold fnd
      rw [List.find?_cons_of_pos (by simp [q])]
      rfl
    · have f : fnd (e :: es) n = fnd es n := by
        unfold fnd
        rw [List.find?_cons_of_neg (by simp [q])]
      have g : valV ((.inr e.1, v) :: ks) (.inr n : Key) = valV ks (.inr n) := valV_neg (fun z => q (Sum.inr.inj z))
      rw [f, g]
      exact val_of r
theorem fnd_isSome {es : Tab α} {n : Str} : (fnd es n).isSome = decide (n ∈ nms es) := by
  unfold fnd nms
  induction es with
  | nil => rfl
  | cons e r ih =>
    by_cases q : e.1 = n
    · rw [List.find?_cons_of_pos (by simp [q])]
      simp [q]
    · rw [List.find?_cons_of_neg (by simp [q]), ih]
      have : ¬ n = e.1 := fun z => q z.symm
      simp [this]
theorem fnd_mem : ∀ {es : Tab α} {n : Str} {x : α}, (nms es).Nodup → (n, x) ∈ es → fnd es n = some x
  | [], _, _, _, h => by cases h
  | e :: r, n, x, nd, h => by
    unfold nms at nd
    rw [List.map_cons, List.nodup_cons] at nd
    unfold fnd
    rcases List.mem_cons.mp h with h | h
    · rw [List.find?_cons_of_pos (by simp [← h]), ← h]
      rfl
    · have e1 : e.1 ≠ n := fun z => nd.1 (by rw [z]; exact List.mem_map_of_mem (f := (·.1)) h)
      rw [List.find?_cons_of_neg (by simp [e1])]
      exact fnd_mem nd.2 h
theorem mem_fnd {es : Tab α} {n : Str} {x : α} (h : fnd es n = some x) : (n, x) ∈ es := by
  unfold fnd at h
  obtain ⟨e, he, ex⟩ := Option.map_eq_some_iff.mp h
  have := List.find?_some he
  have e1 : e.1 = n := of_decide_eq_true this
  rw [← e1, ← ex]
  exact List.mem_of_find?_eq_some he
theorem fnd_perm {es fs : Tab α} (p : es.Perm fs) (nd : (nms es).Nodup) (n : Str) : fnd es n = fnd fs n := by
  have nd' : (nms fs).Nodup := (List.Perm.nodup_iff (List.Perm.map (fun e : Str × α => e.1) p)).mp nd
  cases h : fnd es n with
  | some x => exact (fnd_mem nd' (p.mem_iff.mp (mem_fnd h))).symm
  | none =>
    cases h' : fnd fs n with
    | none => rfl
    | some x =>
      have := fnd_mem nd (p.mem_iff.mpr (mem_fnd h'))
      rw [h] at this
      cases this
theorem keysG {R : V → α → Prop} : ∀ {ks : List (Key × V)} {es : Tab α}, Paired (EntG R) ks es → (ks.map fun kv => kV kv.1) = (nms es).map V.str
  | _, _, .nil => rfl
  | (k, v) :: ks, e :: es, .cons a r => by
    have h1 : k = .inr e.1 := a.1
    subst h1
    show kV (.inr e.1) :: (ks.map fun kv => kV kv.1) = _
    rw [keysG r]
    rfl
theorem keysI {R : V → α → Prop} : ∀ {ks : List (Key × V)} {es : Tab α}, Paired (EntG R) ks es → (ks.map (·.1)) = (nms es).map (fun n => (.inr n : Key))
  | _, _, .nil => rfl
  | (k, v) :: ks, e :: es, .cons a r => by
    have h1 : k = .inr e.1 := a.1
    subst h1
    show (.inr e.1 : Key) :: (ks.map (·.1)) = _
    rw [keysI r]
    rfl
theorem keys_nodup {R : V → α → Prop} {ks : List (Key × V)} {es : Tab α} (p : Paired (EntG R) ks es) (nd : (nms es).Nodup) : (ks.map (·.1)).Nodup := by
  rw [keysI p]
  exact List.Pairwise.map _ (fun a b h z => h (Sum.inr.inj z)) nd
/-- stored under a name -/
def put (es : Tab α) (n : Str) (x : α) : Tab α := if n ∈ nms es then es.map (fun q => if q.1 = n then (q.1, x) else q) else es ++ [(n, x)]
theorem put_ok {R : V → α → Prop} {ks : List (Key × V)} {es : Tab α} {n : Str} {x : α} {v : V} (h : Paired (EntG R) ks es) (hv : R v x) : Paired (EntG R) (putK ks (.inr n : Key) v) (put es n x) := by
  have hany : (ks.any fun kv => decide (kv.1 = (.inr n : Key))) = decide (n ∈ nms es) := by
    rw [valV_any, ← fnd_isSome]
    rcases val_of (n := n) h with ⟨e1, e2⟩ | ⟨e, p, e1, e2, _⟩ <;> rw [e1, e2] <;> rfl
  unfold putK put
  by_cases hn : n ∈ nms es
  · rw [hany, decide_eq_true hn, if_pos rfl, if_pos hn]
    clear hany hn
    induction h with
    | nil => exact .nil
    | @cons a b as bs r rr ih =>
      refine .cons ?_ ih
      obtain ⟨h1, h2⟩ := r
      show EntG R (if a.1 = (.inr n : Key) then (a.1, v) else a) (if b.1 = n then (b.1, x) else b)
      by_cases hb : b.1 = n
      · rw [if_pos (by rw [h1, hb]), if_pos hb]
        exact ⟨by show a.1 = _; exact h1, hv⟩
      · rw [if_neg (fun z => hb (Sum.inr.inj (h1.symm.trans z))), if_neg hb]
        exact ⟨h1, h2⟩
  · rw [hany, decide_eq_false hn, if_neg Bool.false_ne_true, if_neg hn]
    exact paired_snoc ⟨rfl, hv⟩ h
theorem drop_ok {R : V → α → Prop} {n : Str} : ∀ {ks : List (Key × V)} {es : Tab α}, Paired (EntG R) ks es → Paired (EntG R) (dropK ks (.inr n : Key)) (es.filter fun e => decide (e.1 ≠ n))
  | _, _, .nil => .nil
  | (k, v) :: ks, e :: es, .cons a r => by
    have h1 : k = .inr e.1 := a.1
    subst h1
    have ih := drop_ok (n := n) r
    unfold dropK at ih ⊢
    by_cases q : e.1 = n
    · rw [List.filter_cons_of_neg (by simp [q]), List.filter_cons_of_neg (by simp [q])]
      exact ih
    · rw [List.filter_cons_of_pos (by simpa using fun z => q z), List.filter_cons_of_pos (by simpa using q)]
      exact .cons a ih
/-- two tables hold the same -/
def mEq [DecidableEq α] (es fs : Tab α) : Bool := decide (es.length = fs.length) && es.all fun e => decide (fnd fs e.1 = some e.2)
theorem mEq_perm [DecidableEq α] {es es' fs fs' : Tab α} (p : es.Perm es') (q : fs.Perm fs') (nd : (nms fs).Nodup) : mEq es fs = mEq es' fs' := by
  unfold mEq
  rw [p.length_eq, q.length_eq, p.all_eq]
  have : (fun e : Str × α => decide (fnd fs e.1 = some e.2)) = fun e => decide (fnd fs' e.1 = some e.2) := funext fun e => by rw [fnd_perm q nd]
  rw [this]
theorem mEq_self [DecidableEq α] {es : Tab α} (nd : (nms es).Nodup) : mEq es es = true := by
  unfold mEq
  rw [decide_eq_true rfl, Bool.true_and, List.all_eq_true]
  exact fun e he => decide_eq_true (fnd_mem nd he)
end

/-! ### standings -/
section
variable {P : Program} {w : World} {K : PySem.W.Frag} {mg : Str → Option Value} {base : Heap}
def IsR (RC : Addr) (H : Hp) (n : Nat) (v : V) (x : Rat) : Prop := ∃ q, v = .ref q ∧ RV RC H q x n
def IsP (H : Hp) (n : Nat) (v : V) (x : Rat) : Prop := ∃ q, v = .ref q ∧ PV H q x n
/-- dicts by name: of ratios, of ratios and integers, of pairs -/
def DictR (RC : Addr) (H : Hp) (a : Addr) (es : Tab Rat) (n : Nat) : Prop := ∃ ks, H a = some (.dK ks) ∧ Paired (EntG (IsR RC H n)) ks es
def DictN (RC : Addr) (H : Hp) (a : Addr) (es : Tab Rat) (n : Nat) : Prop := ∃ ks, H a = some (.dK ks) ∧ Paired (EntG fun v x => NV RC H v x n) ks es
def DictP (H : Hp) (a : Addr) (es : Tab Rat) (n : Nat) : Prop := ∃ ks, H a = some (.dK ks) ∧ Paired (EntG (IsP H n)) ks es
theorem DictR.on {RC : Addr} {H H' : Hp} {a : Addr} {es : Tab Rat} {n : Nat} (d : DictR RC H a es n) (s : Same H H') : DictR RC H' a es n := let ⟨ks, e, p⟩ := d; ⟨ks, s _ _ e, paired_on (fun _ _ ⟨h1, q, h2, h3⟩ => ⟨h1, q, h2, h3.on s⟩) p⟩
theorem DictN.on {RC : Addr} {H H' : Hp} {a : Addr} {es : Tab Rat} {n : Nat} (d : DictN RC H a es n) (s : Same H H') : DictN RC H' a es n := let ⟨ks, e, p⟩ := d; ⟨ks, s _ _ e, paired_on (fun _ _ ⟨h1, h2⟩ => ⟨h1, h2.on s⟩) p⟩
theorem DictP.on {H H' : Hp} {a : Addr} {es : Tab Rat} {n : Nat} (d : DictP H a es n) (s : Same H H') : DictP H' a es n := let ⟨ks, e, p⟩ := d; ⟨ks, s _ _ e, paired_on (fun _ _ ⟨h1, q, h2, h3⟩ => ⟨h1, q, h2, h3.on s⟩) p⟩
def sf (a b : Addr) : List (Str × V) := [("_loads", .ref a), ("_times", .ref b)]
theorem sf_loads (a b : Addr) : (sf a b).lookup ("_loads" : Str) = some (.ref a) := by simp [sf, List.lookup]
theorem nTL : (("_times" : Str) == ("_loads" : Str)) = false := by decide +kernel
theorem sf_times (a b : Addr) : (sf a b).lookup ("_times" : Str) = some (.ref b) := by simp [sf, List.lookup, nTL]
/-- a standing with its two dicts -/
def StandAt (C RC : Addr) (H : Hp) (p a b : Addr) (es fs : Tab Rat) (n : Nat) : Prop := (∃ dx, H p = some (.ins C dx (sf a b))) ∧ DictR RC H a es n ∧ DictR RC H b fs n
theorem StandAt.on {C RC : Addr} {H H' : Hp} {p a b : Addr} {es fs : Tab Rat} {n : Nat} (t : StandAt C RC H p a b es fs n) (s : Same H H') : StandAt C RC H' p a b es fs n := let ⟨⟨dx, e⟩, h1, h2⟩ := t; ⟨⟨dx, s _ _ e⟩, h1.on s, h2.on s⟩
theorem RV.dput {RC : Addr} {H : Hp} {D q : Addr} {xs : List (Key × V)} {o : HO} {x : Rat} {n : Nat} (hD : H D = some (.dK xs)) (r : RV RC H q x n) : RV RC (upd H D o) q x n := by
  obtain ⟨t, b, ⟨dx, hq⟩, h4⟩ := r
  exact ⟨t, b, ⟨dx, by rw [upd_ne (fun z => by rw [z, hD] at hq; cases hq)]; exact hq⟩, h4⟩
theorem PV.dput {H : Hp} {D q : Addr} {xs : List (Key × V)} {o : HO} {x : Rat} {n : Nat} (hD : H D = some (.dK xs)) (r : PV H q x n) : PV (upd H D o) q x n := by
  obtain ⟨t, b, hq, h4⟩ := r
  have hq : H q = some (.tup _) := hq
  exact ⟨t, b, by show upd H D o q = _; rw [upd_ne (fun z => by rw [z, hD] at hq; cases hq)]; exact hq, h4⟩
theorem NV.dput {RC : Addr} {H : Hp} {D : Addr} {v : V} {xs : List (Key × V)} {o : HO} {x : Rat} {n : Nat} (hD : H D = some (.dK xs)) (r : NV RC H v x n) : NV RC (upd H D o) v x n := by
  obtain ⟨t, b, nm, h4⟩ := r
  refine ⟨t, b, ?_, h4⟩
  rcases nm with e | ⟨p, e, dx, hp⟩
  · exact .inl e
  · exact .inr ⟨p, e, dx, by rw [upd_ne (fun z => by rw [z, hD] at hp; cases hp)]; exact hp⟩
/-- what no instance is may change -/
theorem RV.uput {RC : Addr} {H : Hp} {D q : Addr} {o : HO} {x : Rat} {n : Nat} (hD : ∀ C d fs, H D ≠ some (.ins C d fs)) (r : RV RC H q x n) : RV RC (upd H D o) q x n := by
  obtain ⟨t, b, ⟨dx, hq⟩, h4⟩ := r
  exact ⟨t, b, ⟨dx, by rw [upd_ne (fun z => hD _ _ _ (by rw [← z]; exact hq))]; exact hq⟩, h4⟩
theorem NV.uput {RC : Addr} {H : Hp} {D : Addr} {v : V} {o : HO} {x : Rat} {n : Nat} (hD : ∀ C d fs, H D ≠ some (.ins C d fs)) (r : NV RC H v x n) : NV RC (upd H D o) v x n := by
  obtain ⟨t, b, nm, h4⟩ := r
  refine ⟨t, b, ?_, h4⟩
  rcases nm with e | ⟨p, e, dx, hp⟩
  · exact .inl e
  · exact .inr ⟨p, e, dx, by rw [upd_ne (fun z => hD _ _ _ (by rw [← z]; exact hp))]; exact hp⟩
/-- all but a bare instance is kept -/
theorem RV.keep {RC C p dx : Addr} {fs : List (Str × V)} {H H' : Hp} {q : Addr} {x : Rat} {n : Nat} (hp : H p = some (.ins C dx fs)) (hf : fs.lookup ("_top" : Str) = none) (k : ∀ c o, H c = some o → c ≠ p → H' c = some o) (r : RV RC H q x n) : RV RC H' q x n := by
  obtain ⟨t, b, ⟨d, hq⟩, h4⟩ := r
  refine ⟨t, b, ⟨d, k _ _ hq (fun z => ?_)⟩, h4⟩
  rw [z, hp] at hq
  injection hq with hq
  injection hq with _ _ hq
  rw [hq, rf_top] at hf
  cases hf
theorem NV.keep {RC C p dx : Addr} {fs : List (Str × V)} {H H' : Hp} {v : V} {x : Rat} {n : Nat} (hp : H p = some (.ins C dx fs)) (hf : fs.lookup ("_top" : Str) = none) (k : ∀ c o, H c = some o → c ≠ p → H' c = some o) (r : NV RC H v x n) : NV RC H' v x n := by
  obtain ⟨t, b, nm, h4⟩ := r
  rcases nm with e | ⟨q, e, h⟩
  · exact ⟨t, b, .inl e, h4⟩
  · obtain ⟨t', b', h', _⟩ := RV.keep (n := n) hp hf k ⟨t, b, h, h4⟩
    obtain ⟨d, hq⟩ := h
    refine ⟨t, b, .inr ⟨q, e, d, k _ _ hq (fun z => ?_)⟩, h4⟩
    rw [z, hp] at hq
    injection hq with hq
    injection hq with _ _ hq
    rw [hq, rf_top] at hf
    cases hf
theorem DictR.keep {RC C p dx a : Addr} {fs : List (Str × V)} {H H' : Hp} {es : Tab Rat} {n : Nat} (hp : H p = some (.ins C dx fs)) (hf : fs.lookup ("_top" : Str) = none) (k : ∀ c o, H c = some o → c ≠ p → H' c = some o) (d : DictR RC H a es n) : DictR RC H' a es n := by
  obtain ⟨ks, e, h⟩ := d
  exact ⟨ks, k _ _ e (fun z => by rw [z, hp] at e; cases e), paired_on (fun _ _ ⟨g1, q', g2, g3⟩ => ⟨g1, q', g2, g3.keep hp hf k⟩) h⟩
theorem DictN.keep {RC C p dx a : Addr} {fs : List (Str × V)} {H H' : Hp} {es : Tab Rat} {n : Nat} (hp : H p = some (.ins C dx fs)) (hf : fs.lookup ("_top" : Str) = none) (k : ∀ c o, H c = some o → c ≠ p → H' c = some o) (d : DictN RC H a es n) : DictN RC H' a es n := by
  obtain ⟨ks, e, h⟩ := d
  exact ⟨ks, k _ _ e (fun z => by rw [z, hp] at e; cases e), paired_on (fun _ _ ⟨g1, g3⟩ => ⟨g1, g3.keep hp hf k⟩) h⟩
theorem DictR.uput {RC a D : Addr} {o : HO} {H : Hp} {es : Tab Rat} {n : Nat} (hD : ∀ C d fs, H D ≠ some (.ins C d fs)) (ne : a ≠ D) (d : DictR RC H a es n) : DictR RC (upd H D o) a es n := by
  obtain ⟨ks, e, h⟩ := d
  exact ⟨ks, by rw [upd_ne ne]; exact e, paired_on (fun _ _ ⟨g1, q', g2, g3⟩ => ⟨g1, q', g2, g3.uput hD⟩) h⟩
theorem DictN.uput {RC a D : Addr} {o : HO} {H : Hp} {es : Tab Rat} {n : Nat} (hD : ∀ C d fs, H D ≠ some (.ins C d fs)) (ne : a ≠ D) (d : DictN RC H a es n) : DictN RC (upd H D o) a es n := by
  obtain ⟨ks, e, h⟩ := d
  exact ⟨ks, by rw [upd_ne ne]; exact e, paired_on (fun _ _ ⟨g1, g3⟩ => ⟨g1, g3.uput hD⟩) h⟩
theorem yes_run {σ : L2.St} {H : Hp} {A B : Hp → Prop} (h : A H) : tYes σ H (fun b H3 => if b = true then A H3 else B H3) := by
  show (if true = true then A H else B H)
  exact iteT h
theorem put_next {es : Tab Rat} {i : Nat} {e : Str × Rat} (h : es[i]? = some e) (nd : (nms es).Nodup) : put (es.take i) e.1 e.2 = es.take (i + 1) := by
  have hi := (List.getElem?_eq_some_iff.mp h).1
  have nin : e.1 ∉ nms (es.take i) := fun hm => by
    obtain ⟨q, hq, eq⟩ := List.mem_map.mp hm
    obtain ⟨j, hj, ej⟩ := List.getElem_of_mem hq
    rw [List.length_take] at hj
    rw [List.getElem_take] at ej
    have h1 : (nms es)[j]? = some e.1 := by
      unfold nms
      rw [List.getElem?_map, List.getElem?_eq_getElem (by omega), ej]
      exact congrArg some eq
    have h2 : (nms es)[i]? = some e.1 := by
      unfold nms
      rw [List.getElem?_map, h]
      rfl
    have hl : i < (nms es).length := by unfold nms; rw [List.length_map]; exact hi
    have := nodup_ix nd h1 h2
    omega
  unfold put
  rw [if_neg nin, take_more h]
/-- {n: as_ratio(v) for n, v in d.items()} -/
theorem dcR_run {RC a D : Addr} {od : Obj} {ks : List (Key × V)} {es : Tab Rat} {n i j : Nat} {σ : L2.St} {HL : Hp} {Qd : Hp → Prop} (hHL : HL a = some (.frz od (.dK ks))) (p : Paired (EntG fun v x => NV RC HL v x n) ks es) (nd : (nms es).Nodup) (hl : es.length ≤ 20) (nD : HL D = none)
    (h1 : ∀ u v : V, (((wipe σ [i, j]).set i (some u)).set j (some v))[i]? = some (some u)) (h2 : ∀ u v : V, (((wipe σ [i, j]).set i (some u)).set j (some v))[j]? = some (some v)) (h3 : ∀ u v : V, wipe (((wipe σ [i, j]).set i (some u)).set j (some v)) [i, j] = wipe σ [i, j])
    (hd : ∀ H', Same HL H' → DictR RC H' D es n → Qd H') :
    ∃ W : Nat → Nat → Hp → Prop, (∃ m, W 0 m (upd HL D (.dK []))) ∧ ∀ k m H, W k m H → ((Iti a od ks).stop k H ∧ Qd H) ∨ ((Iti a od ks).go k H ∧ ∃ Nx : Hp → Prop, (∀ H', Nx H' → ∃ m', m' < m ∧ W (k + 1) m' H') ∧ ∀ x H', (Iti a od ks).yld k H x H' →
      gTup K 2 (gCons (gName i) (gCons (gName j) gNil)) x (wipe σ [i, j]) H' fun σ2 H2 => wipe σ2 [i, j] = wipe σ [i, j] ∧ tYes σ2 H2 fun b H3 => if b = true then tVar i σ2 H3 fun y H4 => tCall (spAsV RC) [] E0 (tCons (tVar j) tNil) σ2 H4 fun z H5 => ∃ kvs k, y = kV k ∧ H5 D = some (.dK kvs) ∧ kvs.length < sizeLine ∧ Nx (upd H5 D (.dK (putK kvs k z))) else Nx H3) := by
  refine dc_items (fun k H' => Same HL H' ∧ DictR RC H' D (es.take k) n) ⟨same_upd nD, [], upd_same, .nil⟩ (fun k H' _ q => q.1 _ _ hHL) ?_ ?_
  · intro k k' v T' H' hi ⟨q1, q2⟩ nT
    obtain ⟨e, he, hk', hv⟩ := pair_at p hi
    have hk' : k' = .inr e.1 := hk'
    subst hk'
    have sT := same_upd (o := .tup [kV (.inr e.1), v]) nT
    refine ⟨T', _, rfl, SqT.of upd_same, rfl, kV (.inr e.1), [v], rfl, v, [], rfl, rfl, h3 _ _, ?_⟩
    refine yes_run ?_
    refine ⟨_, h1 _ _, _, h2 _ _, v, e.2, n, rfl, (NV.on hv q1).on sT, fun q H5 s5 r5 => ?_⟩
    obtain ⟨kvs, ek, pk⟩ := (q2.on sT).on s5
    have hlen : kvs.length ≤ 20 := by rw [pk.length, List.length_take]; omega
    refine ⟨kvs, .inr e.1, rfl, ek, small1000 (by omega), same_mut ((q1.trans sT).trans s5) nD, putK kvs (.inr e.1) (.ref q), upd_same, ?_⟩
    rw [← put_next he nd]
    exact put_ok (paired_on (fun _ _ ⟨g1, q', g2, g3⟩ => ⟨g1, q', g2, g3.dput ek⟩) pk) ⟨q, rfl, r5.dput ek⟩
  · rintro H' ⟨q1, q2⟩
    rw [p.length, List.take_length] at q2
    exact hd H' q1 q2
def spStand (C RC : Addr) : Sp := fun vs H Q _ => ∃ (p dx a b : Addr) (es fs : Tab Rat) (n : Nat), vs = [.ref p, .ref a, .ref b] ∧ H p = some (.ins C dx []) ∧ DictN RC H a es n ∧ DictN RC H b fs n ∧ a ≠ b ∧ es.length ≤ 20 ∧ fs.length ≤ 20 ∧ (nms es).Nodup ∧ (nms fs).Nodup ∧
  ∀ c d H', StandAt C RC H' p c d es fs n → H c = none → H d = none → c ≠ d → (∀ a o, H a = some o → a ≠ p → H' a = some o) → Q .non H'
theorem ok_stand (T : Txt K mg) : FnOk P w K mg base CX0 4 T.f_Standing_init T.d_Standing_init ["self", "loads", "times"] (spStand T.f_Standing T.f_Ratio) := by
  have G_as_ratio : FnOk P w K mg base CX0 3 T.f_as_ratio T.d_as_ratio ["value"] (spAsV T.f_Ratio) := okv_as T
  refine T.F_Standing_init.ok sc_Standing_init (fun vs H Q E h => ?_) (fun cdv A outer s H vs Q E hr h => ?_)
  · obtain ⟨p, dx, a, b, es, fs, n, rfl, _⟩ := h
    rfl
  · obtain ⟨p, dx, a, b, es, fs, n, rfl, hp, ha, hb, hab, hl, hl', nd, nd', k⟩ := h
    refine ⟨_, (pss_cons (ps_fld (pv 0) (pe_lock (pe_dc (own := [("name", 3), ("load", 4)]) (g := gTup K 2 (gCons (gName 3) (gCons (gName 4) gNil))) (tt := tYes) rfl sc_Standing_init.nd (pi_items (pv 1)) (blkOk_by (N := ["self", "loads", "times", "name", "load", "place", "time"]) (sc := defScope s_Standing_init) (by decide +kernel)) (fun _ _ _ _ _ => (pg_tup rfl (pgs_cons (pg_name (i := 3) sc_Standing_init.nd rfl (Or.inl rfl)) (pgs_cons (pg_name (i := 4) sc_Standing_init.nd rfl (Or.inl rfl)) pgs_nil)))) (fun _ _ _ _ _ => pts_nil) (fun _ _ _ _ _ => (pv 3)) (fun _ _ _ _ _ => (pe_call G_as_ratio (hr.mono (by decide)) rfl T.m_as_ratio T.F_as_ratio.kp T.b_as_ratio .nil pass0 (pa_cons (pv 4) pa_nil))))) rfl)
    (pss_one (ps_fld (pv 0) (pe_lock (pe_dc (own := [("place", 5), ("time", 6)]) (g := gTup K 2 (gCons (gName 5) (gCons (gName 6) gNil))) (tt := tYes) rfl sc_Standing_init.nd (pi_items (pv 2)) (blkOk_by (N := ["self", "loads", "times", "name", "load", "place", "time"]) (sc := defScope s_Standing_init) (by decide +kernel)) (fun _ _ _ _ _ => (pg_tup rfl (pgs_cons (pg_name (i := 5) sc_Standing_init.nd rfl (Or.inl rfl)) (pgs_cons (pg_name (i := 6) sc_Standing_init.nd rfl (Or.inl rfl)) pgs_nil)))) (fun _ _ _ _ _ => pts_nil) (fun _ _ _ _ _ => (pv 5)) (fun _ _ _ _ _ => (pe_call G_as_ratio (hr.mono (by decide)) rfl T.m_as_ratio T.F_as_ratio.kp T.b_as_ratio .nil pass0 (pa_cons (pv 6) pa_nil))))) rfl))), ?_⟩
    obtain ⟨ks, ea, pa⟩ := id ha
    obtain ⟨ls, eb, pb⟩ := id hb
    -- the loads
    refine ⟨a, .dK ks, ea, True.intro, fun od => ?_⟩
    have na : ∀ C d fs, H a ≠ some (.ins C d fs) := fun C d fs z => by rw [ea] at z; cases z
    have apn : a ≠ p := fun z => by rw [z, hp] at ea; cases ea
    have bpn : b ≠ p := fun z => by rw [z, hp] at eb; cases eb
    have pL := paired_on (G := EntG fun v x => NV T.f_Ratio (upd H a (.frz od (.dK ks))) v x n) (fun _ _ ⟨g1, g2⟩ => ⟨g1, g2.uput na⟩) pa
    have eLa : (upd H a (.frz od (.dK ks))) a = some (.frz od (.dK ks)) := upd_same
    have kL : ∀ c o, c ≠ a → H c = some o → (upd H a (.frz od (.dK ks))) c = some o := fun c o h1 h2 => by rw [upd_ne h1]; exact h2
    have fL : ∀ c, (upd H a (.frz od (.dK ks))) c = none → H c = none := fun c h => by
      by_cases e : c = a
      · rw [e, upd_same] at h; cases h
      · rw [upd_ne e] at h; exact h
    generalize upd H a (.frz od (.dK ks)) = HL at pL eLa kL fL ⊢
    refine ⟨_, rfl, a, od, ks, rfl, eLa, fun D nD => ?_⟩
    refine dcR_run (i := 3) (j := 4) eLa pL nd hl nD (fun _ _ => rfl) (fun _ _ => rfl) (fun _ _ => rfl) fun H1 s1 hD1 => ?_
    have eL1 := s1 _ _ eLa
    have na1 : ∀ C d fs, H1 a ≠ some (.ins C d fs) := fun C d fs z => by rw [eL1] at z; cases z
    have Da : D ≠ a := fun z => by rw [z, eLa] at nD; cases nD
    have hD2 := hD1.uput (o := .dK ks) na1 Da
    have sU : Same H (upd H1 a (.dK ks)) := fun c o h => by
      by_cases e : c = a
      · rw [e, upd_same, ← ea, ← e]; exact h
      · rw [upd_ne e]; exact s1 _ _ (kL c o e h)
    refine ⟨eL1, _, rfl, p, T.f_Standing, dx, [], rfl, sU _ _ hp, T.cl_Standing, T.na_Standing_loads, by show 0 < 1000; decide, ?_⟩
    have hp2 := sU _ _ hp
    have fD : H D = none := fL D nD
    generalize upd H1 a (.dK ks) = H2 at sU hD2 hp2 ⊢
    have kp3 : ∀ c o, H2 c = some o → c ≠ p → (upd H2 p (.ins T.f_Standing dx (putF "_loads" (.ref D) []))) c = some o := fun c o h ne => by rw [upd_ne ne]; exact h
    have hD3 : DictR T.f_Ratio (upd H2 p (.ins T.f_Standing dx (putF "_loads" (.ref D) []))) D es n := hD2.keep hp2 rfl kp3
    have hb3 : DictN T.f_Ratio (upd H2 p (.ins T.f_Standing dx (putF "_loads" (.ref D) []))) b fs n := (hb.on sU).keep hp2 rfl kp3
    have ep3 : (upd H2 p (.ins T.f_Standing dx (putF "_loads" (.ref D) []))) p = some (.ins T.f_Standing dx [("_loads", .ref D)]) := upd_same
    have k3 : ∀ c o, H c = some o → c ≠ p → (upd H2 p (.ins T.f_Standing dx (putF "_loads" (.ref D) []))) c = some o := fun c o h ne => kp3 c o (sU _ _ h) ne
    have eD3 : ∃ ks, (upd H2 p (.ins T.f_Standing dx (putF "_loads" (.ref D) []))) D = some (.dK ks) := let ⟨ks, e, _⟩ := hD3; ⟨ks, e⟩
    have f3 : ∀ c, (upd H2 p (.ins T.f_Standing dx (putF "_loads" (.ref D) []))) c = none → H c = none := fun c h => by
      cases e : H c with
      | none => rfl
      | some o =>
        by_cases z : c = p
        · rw [z, ep3] at h; cases h
        · rw [k3 c o e z] at h; cases h
    generalize upd H2 p (.ins T.f_Standing dx (putF "_loads" (.ref D) [])) = H3 at hD3 hb3 ep3 k3 eD3 f3 ⊢
    clear kp3 hD2 hp2 sU hD1 s1 eL1 na1 Da nD kL fL eLa pL na
    -- the times
    obtain ⟨ls3, eb3, pb3⟩ := id hb3
    have els : ls3 = ls := by
      have := k3 _ _ eb bpn
      rw [eb3] at this
      injection this with this
      injection this
    subst els
    refine ⟨b, .dK ls3, eb3, True.intro, fun od2 => ?_⟩
    have nb : ∀ C d fs, H3 b ≠ some (.ins C d fs) := fun C d fs z => by rw [eb3] at z; cases z
    have pL := paired_on (G := EntG fun v x => NV T.f_Ratio (upd H3 b (.frz od2 (.dK ls3))) v x n) (fun _ _ ⟨g1, g2⟩ => ⟨g1, g2.uput nb⟩) pb3
    have eLb : (upd H3 b (.frz od2 (.dK ls3))) b = some (.frz od2 (.dK ls3)) := upd_same
    have kL : ∀ c o, c ≠ b → H3 c = some o → (upd H3 b (.frz od2 (.dK ls3))) c = some o := fun c o h1 h2 => by rw [upd_ne h1]; exact h2
    have fL : ∀ c, (upd H3 b (.frz od2 (.dK ls3))) c = none → H3 c = none := fun c h => by
      by_cases e : c = b
      · rw [e, upd_same] at h; cases h
      · rw [upd_ne e] at h; exact h
    generalize upd H3 b (.frz od2 (.dK ls3)) = HL at pL eLb kL fL ⊢
    refine ⟨_, rfl, b, od2, ls3, rfl, eLb, fun D2 nD2 => ?_⟩
    refine dcR_run (i := 5) (j := 6) eLb pL nd' hl' nD2 (fun _ _ => rfl) (fun _ _ => rfl) (fun _ _ => rfl) fun H4 s4 hD4 => ?_
    have eL4 := s4 _ _ eLb
    have nb4 : ∀ C d fs, H4 b ≠ some (.ins C d fs) := fun C d fs z => by rw [eL4] at z; cases z
    have Db : D2 ≠ b := fun z => by rw [z, eLb] at nD2; cases nD2
    have hD5 := hD4.uput (o := .dK ls3) nb4 Db
    have sU : Same H3 (upd H4 b (.dK ls3)) := fun c o h => by
      by_cases e : c = b
      · rw [e, upd_same, ← eb3, ← e]; exact h
      · rw [upd_ne e]; exact s4 _ _ (kL c o e h)
    refine ⟨eL4, _, rfl, p, T.f_Standing, dx, _, rfl, sU _ _ ep3, T.cl_Standing, T.na_Standing_times, by show 1 < 1000; decide, ?_⟩
    have ep5 := sU _ _ ep3
    have fD2 : H D2 = none := f3 _ (fL _ nD2)
    have DD : D ≠ D2 := fun z => by
      obtain ⟨ks, e⟩ := eD3
      have := fL _ nD2
      rw [← z, e] at this
      cases this
    have kp6 : ∀ c o, (upd H4 b (.dK ls3)) c = some o → c ≠ p → (upd (upd H4 b (.dK ls3)) p (.ins T.f_Standing dx (putF "_times" (.ref D2) [("_loads", .ref D)]))) c = some o := fun c o h ne => by rw [upd_ne ne]; exact h
    refine k D D2 _ ⟨⟨dx, ?_⟩, (hD3.on sU).keep ep5 rfl kp6, hD5.keep ep5 rfl kp6⟩ fD fD2 DD fun c o h ne => kp6 c o (sU _ _ (k3 c o h ne)) ne
    refine Eq.trans upd_same ?_
    show some (HO.ins T.f_Standing dx (if ("_loads" : Str) = "_times" then _ else _)) = _
    rw [if_neg (by decide +kernel)]
    rfl
end

/-! ### what standings tell -/
section
variable {P : Program} {w : World} {K : PySem.W.Frag} {mg : Str → Option Value} {base : Heap}
def spLoads (C RC : Addr) : Sp := fun vs H Q _ => ∃ (p a b : Addr) (es fs : Tab Rat) (n : Nat), vs = [.ref p] ∧ StandAt C RC H p a b es fs n ∧ ∀ D H', Same H H' → H D = none → DictR RC H' D es n → Q (.ref D) H'
def spTimesS (C RC : Addr) : Sp := fun vs H Q _ => ∃ (p a b : Addr) (es fs : Tab Rat) (n : Nat), vs = [.ref p] ∧ StandAt C RC H p a b es fs n ∧ ∀ D H', Same H H' → H D = none → DictR RC H' D fs n → Q (.ref D) H'
theorem ok_loads (T : Txt K mg) : FnOk P w K mg base CX0 1 T.f_Standing_loads T.d_Standing_loads ["self"] (spLoads T.f_Standing T.f_Ratio) := by
  refine T.F_Standing_loads.ok sc_Standing_loads (fun vs H Q E h => ?_) (fun cdv A outer s H vs Q E hr h => ?_)
  · obtain ⟨p, a, b, es, fs, n, rfl, _⟩ := h
    rfl
  · obtain ⟨p, a, b, es, fs, n, rfl, ⟨⟨dx, ep⟩, ha, hb⟩, k⟩ := h
    refine ⟨_, (pss_one (ps_ret (pe_callTy call_dictD (by rfl) T.n_dict (by decide +kernel) (pa_cons (pe_fld (pv 0) rfl) pa_nil)))), ?_⟩
    obtain ⟨ks, ea, pa⟩ := id ha
    refine ⟨_, rfl, p, T.f_Standing, dx, _, _, rfl, ep, T.cl_Standing, T.na_Standing_loads, sf_loads _ _, ?_⟩
    exact ⟨a, ks, rfl, .inl ea, fun D nD => k D _ (same_upd nD) nD ⟨ks, upd_same, paired_on (fun _ _ ⟨g1, q', g2, g3⟩ => ⟨g1, q', g2, g3.on (same_upd nD)⟩) pa⟩⟩
theorem ok_times54 (T : Txt K mg) : FnOk P w K mg base CX0 1 T.f_Standing_times T.d_Standing_times ["self"] (spTimesS T.f_Standing T.f_Ratio) := by
  refine T.F_Standing_times.ok sc_Standing_times (fun vs H Q E h => ?_) (fun cdv A outer s H vs Q E hr h => ?_)
  · obtain ⟨p, a, b, es, fs, n, rfl, _⟩ := h
    rfl
  · obtain ⟨p, a, b, es, fs, n, rfl, ⟨⟨dx, ep⟩, ha, hb⟩, k⟩ := h
    refine ⟨_, (pss_one (ps_ret (pe_callTy call_dictD (by rfl) T.n_dict (by decide +kernel) (pa_cons (pe_fld (pv 0) rfl) pa_nil)))), ?_⟩
    obtain ⟨ks, eb, pb⟩ := id hb
    refine ⟨_, rfl, p, T.f_Standing, dx, _, _, rfl, ep, T.cl_Standing, T.na_Standing_times, sf_times _ _, ?_⟩
    exact ⟨b, ks, rfl, .inl eb, fun D nD => k D _ (same_upd nD) nD ⟨ks, upd_same, paired_on (fun _ _ ⟨g1, q', g2, g3⟩ => ⟨g1, q', g2, g3.on (same_upd nD)⟩) pb⟩⟩
theorem rv_one {RC : Addr} {H : Hp} {q : Addr} {x y : Rat} {n m : Nat} (a : RV RC H q x n) (b : RV RC H q y m) : x = y := by
  obtain ⟨t, c, ⟨dx, h1⟩, l, v, _⟩ := a
  obtain ⟨t', c', ⟨dy, h2⟩, l', v', _⟩ := b
  rw [h1] at h2
  injection h2 with h2
  injection h2 with _ _ h2
  have e1 : rf t c = rf t' c' := h2
  have et : (rf t c).lookup ("_top" : Str) = (rf t' c').lookup ("_top" : Str) := by rw [e1]
  have eb : (rf t c).lookup ("_bottom" : Str) = (rf t' c').lookup ("_bottom" : Str) := by rw [e1]
  rw [rf_top, rf_top] at et
  rw [rf_bottom, rf_bottom] at eb
  injection et with et
  injection et with et
  injection eb with eb
  injection eb with eb
  rw [← v, ← v', et, eb]
theorem dict_beq {RC : Addr} {H : Hp} {a b : Addr} {es fs : Tab Rat} {n m : Nat} {E : XK} {Q : VK} (ha : DictR RC H a es n) (hb : DictR RC H b fs m) (hne : a ≠ b) (q : Q (.bl (mEq es fs)) H) : rDictB RC (spEqV RC) E (.ref a) (.ref b) H Q := by
  obtain ⟨ks, ea, pa⟩ := ha
  obtain ⟨ls, eb, pb⟩ := hb
  refine ⟨a, b, ks, ls, fun i => match es[i]? with | some e => decide (fnd fs e.1 = some e.2) | none => true, mEq es fs, rfl, rfl, hne, ea, eb, fun i k u hi => ?_, ?_, q⟩
  · obtain ⟨e, he, hk, p', hu, rp⟩ := pair_at pa hi
    have hk : k = .inr e.1 := hk
    have hu : u = .ref p' := hu
    subst hk hu
    dsimp only
    rw [he]
    dsimp only
    rcases val_of (n := e.1) pb with ⟨f1, f2⟩ | ⟨x, v, f1, f2, q', hv, rq⟩
    · exact .inl ⟨f2, by rw [f1]; rfl⟩
    · have hd : decide (fnd fs e.1 = some e.2) = decide (e.2 = x) := by
        rw [f1]
        exact decide_eq_decide.mpr ⟨fun z => (Option.some.inj z).symm, fun z => by rw [z]⟩
      rw [hd]
      obtain ⟨t, c, ⟨dx, hp⟩, _⟩ := id rp
      obtain ⟨t', c', ⟨dy, hq⟩, _⟩ := id rq
      refine .inr ⟨v, f2, p', q', dx, dy, _, _, rfl, hv, hp, hq, fun z => ?_, fun H' kp => ?_⟩
      · subst z
        exact decide_eq_true (rv_one rp rq)
      · have mv : ∀ {p : Addr} {x : Rat} {n : Nat}, RV RC H p x n → RV RC H' p x n := fun {p} {x} {n} r => by
          obtain ⟨t, c, ⟨dx, hp⟩, h4⟩ := r
          exact ⟨t, c, ⟨dx, kp _ _ (fun z => by rw [z, ea] at hp; cases hp) (fun z => by rw [z, eb] at hp; cases hp) hp⟩, h4⟩
        exact ⟨p', q', e.2, x, _, _, rfl, mv rp, mv rq, rfl, rfl⟩
  · unfold mEq
    rw [Bool.and_eq_true, decide_eq_true_eq, List.all_eq_true, pa.length, pb.length]
    refine and_congr_right fun _ => ⟨fun h i hi => ?_, fun h e he => ?_⟩
    · dsimp only
      rw [List.getElem?_eq_getElem hi]
      exact h _ (List.getElem_mem hi)
    · obtain ⟨i, hi, ei⟩ := List.getElem_of_mem he
      have := h i hi
      dsimp only at this
      rw [List.getElem?_eq_getElem hi, ei] at this
      exact this
def spEqS (C RC : Addr) : Sp := fun vs H Q _ => ∃ (p a b p' a' b' : Addr) (es fs es' fs' : Tab Rat) (n m : Nat), vs = [.ref p, .ref p'] ∧ StandAt C RC H p a b es fs n ∧ StandAt C RC H p' a' b' es' fs' m ∧ a ≠ a' ∧ b ≠ b' ∧ Q (.bl (mEq es es' && mEq fs fs')) H
theorem tyRS {C p dx : Addr} {fs : List (Str × V)} {H : Hp} (ic : C8.InsC K C) (hp : H p = some (.ins C dx fs)) : TyX K H (.ref p) (.ref C) := .base (.ins hp ic.cl ic.ha ic.hn ic.htk ic.hm)
theorem ok_eqS (T : Txt K mg) : FnOk P w K mg base CX0 3 T.f_Standing_eq T.d_Standing_eq ["self", "other"] (spEqS T.f_Standing T.f_Ratio) := by
  have G_Ratio_eq : FnOk P w K mg base CX0 1 T.f_Ratio_eq T.d_Ratio_eq ["self", "other"] (spEqV T.f_Ratio) := okv_eq T
  refine T.F_Standing_eq.ok sc_Standing_eq (fun vs H Q E h => ?_) (fun cdv A outer s H vs Q E hr h => ?_)
  · obtain ⟨p, a, b, p', a', b', es, fs, es', fs', n, m, rfl, _⟩ := h
    rfl
  · obtain ⟨p, a, b, p', a', b', es, fs, es', fs', n, m, rfl, ⟨⟨dx, ep⟩, ha, hb⟩, ⟨⟨dx', ep'⟩, ha', hb'⟩, hne, hne', k⟩ := h
    refine ⟨_, (pss_cons (ps_if (pt_not (pt_val (pe_callB call_isi (by rfl) T.n_isinstance (by decide +kernel) (pa_cons (pv 1) (pa_cons (pe_glob (v := .ref T.f_Standing) rfl T.m_Standing rfl) pa_nil)))))
      (pss_one (ps_ret pe_bl))
      pss_nil)
    (pss_one (ps_ret (pe_and (pe_cmpR (op_dictB T.a_Ratio_eq T.i_Ratio_eq G_Ratio_eq (hr.mono (by decide)) T.b_Ratio_eq pass0) (pe_fld (pv 0) rfl) (pe_fld (pv 1) rfl) (nomark _)) (pe_one (pe_cmpR (op_dictB T.a_Ratio_eq T.i_Ratio_eq G_Ratio_eq (hr.mono (by decide)) T.b_Ratio_eq pass0) (pe_fld (pv 0) rfl) (pe_fld (pv 1) rfl) (nomark _))))))), ?_⟩
    refine ⟨_, rfl, .ref p', .ref T.f_Standing, .ref T.f_Standing, .ref T.f_Standing, true, rfl, .own _, tyRS T.ic_Standing ep', kit_self, true, rfl, iteF ?_⟩
    refine ⟨_, rfl, p, T.f_Standing, dx, _, _, rfl, ep, T.cl_Standing, T.na_Standing_loads, sf_loads _ _, _, rfl, p', T.f_Standing, dx', _, _, rfl, ep', T.cl_Standing, T.na_Standing_loads, sf_loads _ _, dict_beq ha ha' hne ⟨_, rfl, ite2 (fun h1 => ?_) fun h1 => ?_⟩⟩
    · refine ⟨_, rfl, p, T.f_Standing, dx, _, _, rfl, ep, T.cl_Standing, T.na_Standing_times, sf_times _ _, _, rfl, p', T.f_Standing, dx', _, _, rfl, ep', T.cl_Standing, T.na_Standing_times, sf_times _ _, dict_beq hb hb' hne' ?_⟩
      rw [h1, Bool.true_and] at k
      exact k
    · have h1 : mEq es es' = false := by
        cases h : mEq es es' with
        | false => rfl
        | true => exact absurd h h1
      rw [h1, Bool.false_and] at k
      exact k
def spEqSI : Sp := fun vs H Q _ => ∃ (p : Addr) (i : Int), vs = [.ref p, .int i] ∧ Q (.bl false) H
theorem ok_eqSI (T : Txt K mg) : FnOk P w K mg base CX0 3 T.f_Standing_eq T.d_Standing_eq ["self", "other"] spEqSI := by
  have G_Ratio_eq : FnOk P w K mg base CX0 1 T.f_Ratio_eq T.d_Ratio_eq ["self", "other"] (spEqV T.f_Ratio) := okv_eq T
  refine T.F_Standing_eq.ok sc_Standing_eq (fun vs H Q E h => ?_) (fun cdv A outer s H vs Q E hr h => ?_)
  · obtain ⟨p, i, rfl, _⟩ := h
    rfl
  · obtain ⟨p, i, rfl, k⟩ := h
    refine ⟨_, (pss_cons (ps_if (pt_not (pt_val (pe_callB call_isi (by rfl) T.n_isinstance (by decide +kernel) (pa_cons (pv 1) (pa_cons (pe_glob (v := .ref T.f_Standing) rfl T.m_Standing rfl) pa_nil)))))
      (pss_one (ps_ret pe_bl))
      pss_nil)
    (pss_one (ps_ret (pe_and (pe_cmpR (op_dictB T.a_Ratio_eq T.i_Ratio_eq G_Ratio_eq (hr.mono (by decide)) T.b_Ratio_eq pass0) (pe_fld (pv 0) rfl) (pe_fld (pv 1) rfl) (nomark _)) (pe_one (pe_cmpR (op_dictB T.a_Ratio_eq T.i_Ratio_eq G_Ratio_eq (hr.mono (by decide)) T.b_Ratio_eq pass0) (pe_fld (pv 0) rfl) (pe_fld (pv 1) rfl) (nomark _))))))), ?_⟩
    exact ⟨_, rfl, .int i, .ref T.f_Standing, .type "int", .ref T.f_Standing, false, rfl, .own _, .base (.int i), T.ki_Standing_int, false, rfl, iteT k⟩
end

/-! ### drawn tables -/
section
variable {P : Program} {w : World} {K : PySem.W.Frag} {mg : Str → Option Value} {base : Heap}
structure TabOk (es : Tab Rat) : Prop where
  nd : (nms es).Nodup
  few : es.length ≤ 6
  wn : ∀ n ∈ nms es, Wn n
def spTable : Sp := fun vs H Q _ => ∃ (st : Addr) (m : Nat) (G : Hp), vs = [.ref st] ∧ DSt G H st m ∧ m + 40 < 900000 ∧ ∀ (D : Addr) (es : Tab Rat) H' G', Same G G' → G D = none → DSt G' H' st (m + 40) → DictP G' D es 11 → TabOk es → es ≠ [] → Q (.ref D) H'
theorem abs_lt {r A : Int} {n : Nat} (h0 : -A ≤ r) (h1 : r < A) (h2 : A < 2 ^ n) : r.natAbs < 2 ^ n := by
  have h : ((r.natAbs : Nat) : Int) < ((2 ^ n : Nat) : Int) := by
    have e : ((2 ^ n : Nat) : Int) = (2 : Int) ^ n := by exact_mod_cast rfl
    rw [e]
    omega
  exact_mod_cast h
theorem ok_table (T : Txt K mg) : FnOk P w K mg base CX0 3 T.f_table T.d_table ["_law_state"] spTable := by
  have G_draw : FnOk P w K mg base CX0 1 T.f_draw T.d_draw ["_law_state", "_law_size"] spDraw := ok_draw T
  have G_low : FnOk P w K mg base CX0 1 T.f_low T.d_low ["_law_up", "_law_down"] spLowV := okv_low T
  have G_names := ok_nms (P := P) (w := w) (base := base) T
  refine T.F_table.ok sc_table (fun vs H Q E h => ?_) (fun cdv A outer s H vs Q E hr h => ?_)
  · obtain ⟨st, m, G, rfl, _⟩ := h
    rfl
  · obtain ⟨st, m, G, rfl, d, hm, k⟩ := h
    refine ⟨_, (pss_cons (ps_set (i := 1) sc_table.nd rfl (Or.inl rfl) pe_dnewK)
    (C8.pss_cut (ps_for PassesOwn.never rfl (pi_list (pe_call G_names (hr.mono (by decide)) rfl T.m_names T.F_names.kp T.b_names .nil pass0 (pa_cons (pv 0) (pa_cons (pe_op op_add pe_int (pe_call G_draw (hr.mono (by decide)) rfl T.m_draw T.F_draw.kp T.b_draw .nil pass0 (pa_cons (pv 0) (pa_cons pe_int pa_nil)))) pa_nil)))) (pg_name (i := 2) sc_table.nd rfl (Or.inl rfl))
      (pss_one (ps_asg (pe_call G_low (hr.mono (by decide)) rfl T.m_low T.F_low.kp T.b_low .nil pass0 (pa_cons (pe_op op_sub (pe_call G_draw (hr.mono (by decide)) rfl T.m_draw T.F_draw.kp T.b_draw .nil pass0 (pa_cons (pv 0) (pa_cons pe_int pa_nil))) pe_int) (pa_cons (pe_op op_add pe_int (pe_call G_draw (hr.mono (by decide)) rfl T.m_draw T.F_draw.kp T.b_draw .nil pass0 (pa_cons (pv 0) (pa_cons pe_int pa_nil)))) pa_nil))) (pg_sub (pv 1) (pv 2) (set_dict (hu_of hr))))))
    (pss_one (ps_ret (pv 1))))), ?_⟩
    intro D nD
    have d0 := d.new (o := .dK []) nD
    have fD := d.free nD
    have s0 := same_upd (o := .dK []) fD
    have eD0 : (upd G D (.dK [])) D = some (.dK []) := upd_same
    generalize upd G D (.dK []) = G0 at d0 s0 eD0
    refine ⟨fun σ H' => ∃ (x2 : Option V) (G' : Hp) (es : Tab Rat), σ = [some (.ref st), some (.ref D), x2] ∧ DSt G' H' st (m + 40) ∧ Same G G' ∧ DictP G' D es 11 ∧ TabOk es ∧ es ≠ [], ?_, ?_⟩
    · refine ⟨_, rfl, _, rfl, G0, st, m, 6, rfl, d0, by omega, by decide, by decide, fun r H1 r0 r1 d1 => ⟨_, _, rfl, rfl, ?_⟩⟩
      obtain ⟨rn, rfl⟩ := Int.eq_ofNat_of_zero_le r0
      refine ⟨G0, st, m + 1, 1 + rn, by push_cast; rfl, d1, by omega, by omega, fun l ws H2 nl d2 nm => ?_⟩
      have lD : l ≠ D := fun z => by rw [z, eD0] at nl; cases nl
      have s2 := s0.trans (same_upd (o := .lst (ws.map V.str)) nl)
      have el : (upd G0 l (.lst (ws.map V.str))) l = some (.lst (ws.map V.str)) := upd_same
      have eD2 : (upd G0 l (.lst (ws.map V.str))) D = some (.dK []) := by rw [upd_ne (Ne.symm lD)]; exact eD0
      generalize upd G0 l (.lst (ws.map V.str)) = G2 at d2 s2 el eD2
      refine ⟨l, rfl, ⟨_, SqL.of (d2.same _ _ el)⟩, ?_⟩
      refine for_list (K := K) (a := l) (xs := ws.map V.str) (fun i σ H' => ∃ (x2 : Option V) (G' : Hp) (es : Tab Rat), σ = [some (.ref st), some (.ref D), x2] ∧ DSt G' H' st (m + 12 + 2 * i) ∧ Same G G' ∧ G' l = some (.lst (ws.map V.str)) ∧ DictP G' D es 11 ∧ nms es = ws.take i) ⟨_, G2, [], rfl, d2.mono (by omega), s2, el, ⟨[], eD2, .nil⟩, rfl⟩ (fun i σ H' _ ⟨_, G', _, _, d', _, e', _⟩ => SqL.of (d'.same _ _ e')) ?_ ?_
      · rintro i x σ H3 hi ⟨x2, G3, es, rfl, d3, s3, el3, hD3, hnm⟩
        rw [List.getElem?_map] at hi
        cases hw : ws[i]? with
        | none => rw [hw] at hi; cases hi
        | some z =>
          rw [hw] at hi
          obtain rfl := Option.some.inj hi
          have hi6 : i < 6 := by
            have := (List.getElem?_eq_some_iff.mp hw).1
            rw [nm.len] at this
            omega
          refine ⟨_, rfl, G3, st, _, 2001, rfl, d3, by omega, by decide, by decide, fun r3 H4 r30 r31 d4 => ⟨_, _, rfl, rfl, ?_⟩⟩
          refine ⟨_, rfl, G3, st, _, 12, rfl, d4, by omega, by decide, by decide, fun r5 H5 r50 r51 d5 => ⟨_, _, rfl, rfl, ?_⟩⟩
          refine ⟨r3 - 1000, 1 + r5, 11, rfl, by omega, ⟨?_, ?_⟩, by decide, fun q H6 nq s6 p6 => ?_⟩
          · exact abs_lt (A := 1001) (by omega) (by omega) (by decide)
          · exact abs_lt (A := 14) (by omega) (by omega) (by decide)
          obtain ⟨G6, d6, sg, nl6⟩ := (d5.on s6).grow
          obtain ⟨ks, eD6, pk⟩ := hD3.on sg
          have hlen : ks.length ≤ 6 := by
            rw [pk.length]
            have : es.length = (nms es).length := by unfold nms; rw [List.length_map]
            rw [this, hnm, List.length_take]
            omega
          have ne1 : l ≠ D := lD
          refine ⟨_, rfl, _, rfl, D, _, rfl, DPut.k (k := .inr z) (d6.same _ _ eD6) (small1000 (by omega)), ?_⟩
          have nin : z ∉ nms es := fun hm => by
            rw [hnm] at hm
            obtain ⟨j, hj, ej⟩ := List.getElem_of_mem hm
            rw [List.length_take] at hj
            rw [List.getElem_take] at ej
            have := nodup_ix nm.nd (i := j) (j := i) (x := z) (by rw [List.getElem?_eq_getElem (by omega), ej]) hw
            omega
          refine ⟨_, upd G6 D (.dK (putK ks (.inr z) (.ref q))), es ++ [(z, vq (r3 - 1000) (1 + r5))], rfl, (d6.put eD6).mono (by omega), same_mut (s3.trans sg) fD, by rw [upd_ne ne1]; exact sg _ _ el3, ⟨_, upd_same, ?_⟩, ?_⟩
          · have := put_ok (n := z) (R := IsP (upd G6 D (.dK (putK ks (.inr z) (.ref q)))) 11) (x := vq (r3 - 1000) (1 + r5)) (v := .ref q) (paired_on (fun _ _ ⟨g1, q', g2, g3⟩ => ⟨g1, q', g2, g3.dput eD6⟩) pk) ⟨q, rfl, (p6.nl nl6).dput eD6⟩
            unfold put at this
            rw [if_neg nin] at this
            exact this
          · unfold nms at hnm ⊢
            rw [List.map_append, hnm, take_more hw]
            rfl
      · rintro σ H3 ⟨x2, G3, es, rfl, d3, s3, el3, hD3, hnm⟩
        rw [List.length_map] at d3 hnm
        rw [List.take_length] at hnm
        have hl : es.length = 1 + rn := by
          have : es.length = (nms es).length := by unfold nms; rw [List.length_map]
          rw [this, hnm, nm.len]
        refine ⟨x2, G3, es, rfl, d3.mono (by rw [nm.len]; omega), s3, hD3, ⟨by rw [hnm]; exact nm.nd, by omega, fun z hz => (nm.ok z (by rw [← hnm]; exact hz)).2⟩, fun z => ?_⟩
        rw [z] at hl
        have : 0 = 1 + rn := hl
        omega
    · rintro σ H1 ⟨x2, G1, es, rfl, d1, s1, hD, ok, hne⟩
      exact ⟨_, rfl, k D es _ G1 s1 fD d1 hD ok hne⟩
theorem dictP_at {H : Hp} {a : Addr} {es : Tab Rat} {n : Nat} (d : DictP H a es n) (nd : (nms es).Nodup) {z : Str} {x : Rat} (h : (z, x) ∈ es) : ∃ ks q, H a = some (.dK ks) ∧ valV ks (.inr z : Key) = some (.ref q) ∧ PV H q x n := by
  obtain ⟨ks, e, p⟩ := d
  rcases val_of (n := z) p with ⟨f1, _⟩ | ⟨y, v, f1, f2, q, hv, hq⟩
  · rw [fnd_mem nd h] at f1
    cases f1
  · rw [fnd_mem nd h] at f1
    obtain rfl := Option.some.inj f1
    exact ⟨ks, q, e, by rw [f2, hv], hq⟩
/-! ### the table handed over -/
def spGiven (RC : Addr) : Sp := fun vs H Q _ => ∃ (st A : Addr) (m n : Nat) (G : Hp) (es : Tab Rat), vs = [.ref st, .ref A] ∧ DSt G H st m ∧ m + 20 < 900000 ∧ DictP G A es n ∧ n ≤ 900 ∧ TabOk es ∧ ∀ (D : Addr) (fs : Tab Rat) H' G', Same G G' → G D = none → DSt G' H' st (m + 20) → DictN RC G' D fs n → fs.Perm es → Q (.ref D) H'
theorem ok_given (T : Txt K mg) : FnOk P w K mg base CX0 4 T.f_given T.d_given ["_law_state", "_law_table_here"] (spGiven T.f_Ratio) := by
  have G_draw : FnOk P w K mg base CX0 1 T.f_draw T.d_draw ["_law_state", "_law_size"] spDraw := ok_draw T
  have G_value := okv_value (P := P) (w := w) (base := base) T
  refine T.F_given.ok sc_given (fun vs H Q E h => ?_) (fun cdv A outer s H vs Q E hr h => ?_)
  · obtain ⟨st, A, m, n, G, es, rfl, _⟩ := h
    rfl
  · obtain ⟨st, A', m, n, G, es, rfl, d, hm, hA, hn, ok, k⟩ := h
    refine ⟨_, (pss_cons (ps_set (i := 2) sc_given.nd rfl (Or.inl rfl) pe_dnewK)
    (C8.pss_cut (ps_for PassesOwn.never rfl (pi_list (pe_stepL (pe_callB (call_sortedD rfl) (by rfl) T.n_sorted (by decide +kernel) (pa_cons (pv 1) pa_nil)) (pe_op op_sub pe_int (pe_op op_mul pe_int (pe_call G_draw (hr.mono (by decide)) rfl T.m_draw T.F_draw.kp T.b_draw .nil pass0 (pa_cons (pv 0) (pa_cons pe_int pa_nil))))))) (pg_name (i := 3) sc_given.nd rfl (Or.inl rfl))
      (pss_one (ps_asg (pe_call G_value (hr.mono (by decide)) rfl T.m_value T.F_value.kp T.b_value .nil pass0 (pa_cons (pv 0) (pa_cons (pe_dget (hu_of hr) (pv 1) (pv 3) (fun _ _ => rfl)) pa_nil))) (pg_sub (pv 2) (pv 3) (set_dict (hu_of hr))))))
    (pss_one (ps_ret (pv 2))))), ?_⟩
    intro D nD
    have d0 := d.new (o := .dK []) nD
    have fD := d.free nD
    have s0 := same_upd (o := .dK []) fD
    have eD0 : (upd G D (.dK [])) D = some (.dK []) := upd_same
    generalize upd G D (.dK []) = G0 at d0 s0 eD0
    refine ⟨fun σ H' => ∃ (x3 : Option V) (G' : Hp) (fs : Tab Rat), σ = [some (.ref st), some (.ref A'), some (.ref D), x3] ∧ DSt G' H' st (m + 20) ∧ Same G G' ∧ DictN T.f_Ratio G' D fs n ∧ fs.Perm es, ?_, ?_⟩
    · obtain ⟨ka, eA, pA⟩ := hA.on s0
      have hk64 : (nms es).length < 64 := by
        have := ok.few
        unfold nms
        rw [List.length_map]
        omega
      refine ⟨_, rfl, A', ka, nms es, rfl, .inl (d0.same _ _ eA), keysI pA, hk64, fun ys p1 hys srt np1 => ?_⟩
      have d1 := d0.new (o := .lst (ys.map V.str)) np1
      have s1 := same_upd (o := .lst (ys.map V.str)) (d0.free np1)
      have eD1 := s1 _ _ eD0
      have e1 : (upd G0 p1 (.lst (ys.map V.str))) p1 = some (.lst (ys.map V.str)) := upd_same
      have s01 := s0.trans s1
      generalize upd G0 p1 (.lst (ys.map V.str)) = G1 at d1 s1 s01 eD1 e1
      refine ⟨_, rfl, G1, st, m, 2, rfl, d1, by omega, by decide, by decide, fun r H2 r0 r1 d2 => ?_⟩
      refine ⟨_, _, rfl, rfl, .inl ⟨by decide, by decide⟩, _, _, rfl, rfl, _, rfl, _, rfl, p1, ys.map V.str, rfl, SqL.of (d2.same _ _ e1), by omega, fun p2 np2 => ?_⟩
      obtain ⟨zs, hzs, ez⟩ : ∃ zs : List Str, zs.Perm (nms es) ∧ (if (1 : Int) - 2 * r = 1 then ys.map V.str else (ys.map V.str).reverse) = zs.map V.str := by
        by_cases h : (1 : Int) - 2 * r = 1
        · exact ⟨ys, hys, by rw [if_pos h]⟩
        · exact ⟨ys.reverse, (List.reverse_perm ys).trans hys, by rw [if_neg h, List.map_reverse]⟩
      rw [ez]
      have d3 := d2.new (o := .lst (zs.map V.str)) np2
      have s3 := s01.trans (same_upd (o := .lst (zs.map V.str)) (d2.free np2))
      have eD3 := (same_upd (o := .lst (zs.map V.str)) (d2.free np2)) _ _ eD1
      have e3 : (upd G1 p2 (.lst (zs.map V.str))) p2 = some (.lst (zs.map V.str)) := upd_same
      generalize upd G1 p2 (.lst (zs.map V.str)) = G3 at d3 s3 eD3 e3
      have pD : p2 ≠ D := fun z => by rw [z, eD3] at e3; cases e3
      have ndz : zs.Nodup := hzs.nodup_iff.mpr ok.nd
      refine ⟨p2, rfl, ⟨_, SqL.of (d3.same _ _ e3)⟩, ?_⟩
      refine for_list (K := K) (a := p2) (xs := zs.map V.str) (fun i σ H' => ∃ (x3 : Option V) (G' : Hp) (fs : Tab Rat), σ = [some (.ref st), some (.ref A'), some (.ref D), x3] ∧ DSt G' H' st (m + 1 + 2 * i) ∧ Same G G' ∧ G' p2 = some (.lst (zs.map V.str)) ∧ DictN T.f_Ratio G' D fs n ∧ nms fs = zs.take i ∧ ∀ e ∈ fs, e ∈ es) ⟨_, G3, [], rfl, d3, s3, e3, ⟨[], eD3, .nil⟩, rfl, fun e he => by cases he⟩ (fun i σ H' _ ⟨_, G', _, _, d', _, e', _⟩ => SqL.of (d'.same _ _ e')) ?_ ?_
      · rintro i x σ H4 hi ⟨x3, G4, fs, rfl, d4, s4, e4, hD4, hnm, hsub⟩
        rw [List.getElem?_map] at hi
        cases hw : zs[i]? with
        | none => rw [hw] at hi; cases hi
        | some z =>
          rw [hw] at hi
          obtain rfl := Option.some.inj hi
          have hzl : zs.length ≤ 6 := by
            rw [hzs.length_eq]
            unfold nms
            rw [List.length_map]
            exact ok.few
          have hi6 : i < zs.length := (List.getElem?_eq_some_iff.mp hw).1
          obtain ⟨e, he, ez'⟩ := List.mem_map.mp (hzs.mem_iff.mp (List.mem_of_getElem? hw))
          obtain ⟨kz, q, eA4, fA, pq⟩ := dictP_at (hA.on s4) ok.nd (z := z) (x := e.2) (by rw [← ez']; exact he)
          refine ⟨_, rfl, _, rfl, _, rfl, A', .ref q, rfl, by rw [← fA]; exact DGet.k (k := .inr z) (d4.same _ _ eA4), ?_⟩
          refine ⟨st, q, e.2, n, G4, _, rfl, pq, by omega, d4, by omega, fun v H5 nv nlv d5 => ?_⟩
          obtain ⟨G5, d5', sg5, nl5⟩ := d5.grow
          obtain ⟨ks, eD5, pk⟩ := hD4.on sg5
          have hfl : fs.length = (nms fs).length := by unfold nms; rw [List.length_map]
          have hlen : ks.length ≤ 6 := by
            rw [pk.length, hfl, hnm, List.length_take]
            omega
          refine ⟨_, rfl, _, rfl, D, _, rfl, DPut.k (k := .inr z) (d5'.same _ _ eD5) (small1000 (by omega)), ?_⟩
          have nin : z ∉ nms fs := fun hm => by
            rw [hnm] at hm
            obtain ⟨j, hj, ej⟩ := List.getElem_of_mem hm
            rw [List.length_take] at hj
            rw [List.getElem_take] at ej
            have := nodup_ix ndz (i := j) (j := i) (x := z) (by rw [List.getElem?_eq_getElem (by omega), ej]) hw
            omega
          refine ⟨_, upd G5 D (.dK (putK ks (.inr z) v)), fs ++ [(z, e.2)], rfl, (d5'.put eD5).mono (by omega), same_mut (s4.trans sg5) fD, by rw [upd_ne pD]; exact sg5 _ _ e4, ⟨_, upd_same, ?_⟩, ?_, ?_⟩
          · have pk' : Paired (EntG fun y x => NV T.f_Ratio (upd G5 D (.dK (putK ks (.inr z) v))) y x n) ks fs := paired_on (fun _ _ ⟨g1, g3⟩ => ⟨g1, g3.dput eD5⟩) pk
            have := put_ok (n := z) (x := e.2) (v := v) pk' ((nv.nl nl5).dput eD5)
            unfold put at this
            rw [if_neg nin] at this
            exact this
          · unfold nms at hnm ⊢
            rw [List.map_append, hnm, take_more hw]
            rfl
          · intro e' he'
            rcases List.mem_append.mp he' with h | h
            · exact hsub e' h
            · rw [List.mem_singleton.mp h, ← ez']
              exact he
      · rintro σ H4 ⟨x3, G4, fs, rfl, d4, s4, e4, hD4, hnm, hsub⟩
        rw [List.length_map] at d4 hnm
        rw [List.take_length] at hnm
        have ndf : (nms fs).Nodup := by rw [hnm]; exact ndz
        have nde : ∀ {l : Tab Rat}, (nms l).Nodup → l.Nodup := fun {l} h => (List.pairwise_map.mp h).imp fun h z => h (by rw [z])
        refine ⟨x3, G4, fs, rfl, d4.mono (by have := hzs.length_eq; have h2 : (nms es).length = es.length := by { unfold nms; rw [List.length_map] }; have := ok.few; omega), s4, hD4, (List.perm_ext_iff_of_nodup (nde ndf) (nde ok.nd)).mpr fun e => ⟨hsub e, fun he => ?_⟩⟩
        have hz : e.1 ∈ nms fs := by
          rw [hnm]
          exact hzs.mem_iff.mpr (List.mem_map_of_mem (f := (·.1)) he)
        obtain ⟨e', he', ee⟩ := List.mem_map.mp hz
        have h1 := fnd_mem ok.nd (hsub e' he')
        have h2 := fnd_mem ok.nd he
        rw [ee, h2] at h1
        have : e = e' := Prod.ext ee.symm (Option.some.inj h1)
        rw [this]
        exact he'
    · rintro σ H1 ⟨x3, G1, fs, rfl, d1, s1, hD, p⟩
      exact ⟨_, rfl, k D fs _ G1 s1 fD d1 hD p⟩
end

/-! ### links in the order of their names -/
theorem risen : ∀ (p : Str) (l : List Str), PyProof.Rows.risingS p l = true → (p :: l).Pairwise fun a b => a.cps.toList ≤ b.cps.toList
  | p, [], _ => List.pairwise_singleton _ _
  | p, x :: r, h => by
    have h1 : (!PySem.Spec.ltCps x.cps.toList p.cps.toList && PyProof.Rows.risingS x r) = true := h
    rw [Bool.and_eq_true, PyProof.Rows.ltCps_eq] at h1
    have le : p.cps.toList ≤ x.cps.toList := by
      have := h1.1
      rw [Bool.not_eq_true', decide_eq_false_iff_not] at this
      exact List.not_lt.mp this
    have ih := risen x r h1.2
    refine List.pairwise_cons.mpr ⟨fun y hy => ?_, ih⟩
    rcases List.mem_cons.mp hy with e | e
    · rw [e]; exact le
    · exact List.le_trans le ((List.pairwise_cons.mp ih).1 y e)
theorem sorted_pw : ∀ {l : List Str}, PyProof.Rows.sortedS l = true → l.Pairwise fun a b => a.cps.toList ≤ b.cps.toList
  | [], _ => .nil
  | p :: r, h => risen p r h
theorem sorted_one {l m : List Str} (p : l.Perm m) (hl : PyProof.Rows.sortedS l = true) (hm : PyProof.Rows.sortedS m = true) : l = m :=
  List.Perm.eq_of_pairwise (fun a b _ _ h1 h2 => Str.ext' (Array.toList_inj.mp (List.le_antisymm h1 h2))) (sorted_pw hl) (sorted_pw hm) p
/-! ### texts as data -/
theorem lay_map {α : Type} (f : α → PyData) : ∀ {xs : List α}, (∀ x ∈ xs, (f x).canLay0 = true) → PyData.canLayAll0 (xs.map f) = true
  | [], _ => rfl
  | x :: xs, h => by
    show ((f x).canLay0 && PyData.canLayAll0 (xs.map f)) = true
    rw [h x List.mem_cons_self, lay_map f fun y hy => h y (List.mem_cons_of_mem _ hy)]
    rfl
theorem depth_map {α : Type} (f : α → PyData) (n : Nat) : ∀ {xs : List α}, (∀ x ∈ xs, (f x).depth ≤ n) → PyData.depthAll (xs.map f) ≤ n
  | [], _ => Nat.zero_le _
  | x :: xs, h => by
    show max (f x).depth (PyData.depthAll (xs.map f)) ≤ n
    have a := h x List.mem_cons_self
    have b := depth_map f n fun y hy => h y (List.mem_cons_of_mem _ hy)
    omega
theorem lay_str {z : Str} (h : Wn z) : (PyData.str z).canLay0 = true := by
  simp only [PyData.canLay0, PyData.strOk]
  rw [Array.all_eq_true]
  intro i hi
  have := h.2 z.cps[i] (by simp)
  simp
  omega
theorem dep_str (z : Str) : (PyData.str z).depth = 0 := by simp [PyData.depth]
theorem shaped_l {α : Type} {f : α → PyData} {xs : List α} {n : Nat} (hn : n ≤ 60) (h1 : ∀ x ∈ xs, (f x).canLay0 = true) (h2 : ∀ x ∈ xs, (f x).depth ≤ n) : SeqAt.shaped (.list (xs.map f)) = true := by
  unfold SeqAt.shaped
  rw [show PyData.canLay0 (.list (xs.map f)) = true by simp only [PyData.canLay0]; exact lay_map f h1, Bool.true_and]
  refine decide_eq_true ?_
  have := depth_map f n h2
  simp only [PyData.depth]
  omega
theorem shaped_txts {zs : List Str} (h : ∀ z ∈ zs, Wn z) : SeqAt.shaped (.list (zs.map PyData.str)) = true := shaped_l (n := 0) (by decide) (fun z hz => lay_str (h z hz)) fun z _ => by rw [dep_str]; exact Nat.le_refl _
theorem shaped_nil : SeqAt.shaped (.list []) = true := shaped_txts (zs := []) fun z hz => by cases hz
theorem eqv_map {α : Type} [DecidableEq α] {f : α → PyData} (hf : ∀ a b, PyData.eqv (f a) (f b) = decide (a = b)) : ∀ xs ys : List α, PyData.eqvAll (xs.map f) (ys.map f) = decide (xs = ys)
  | [], [] => by simp [PyData.eqvAll]
  | [], y :: ys => by simp [PyData.eqvAll]
  | x :: xs, [] => by simp [PyData.eqvAll]
  | x :: xs, y :: ys => by
    rw [List.map_cons, List.map_cons, PyData.eqvAll, hf, eqv_map hf xs ys]
    by_cases h1 : x = y <;> by_cases h2 : xs = ys <;> simp [h1, h2]
theorem eqv_str (a b : Str) : PyData.eqv (.str a) (.str b) = decide (a = b) := by
  rw [PyData.eqv]
  by_cases h : a = b
  · subst h; simp
  · rw [decide_eq_false h]
    exact beq_false_of_ne h
theorem eqv_txts (xs ys : List Str) : PyData.eqv (.list (xs.map PyData.str)) (.list (ys.map PyData.str)) = decide (xs = ys) := by
  rw [PyData.eqv]
  exact eqv_map eqv_str xs ys
theorem dp_txts {K : PySem.W.Frag} {H : Hp} {l : Addr} {zs : List Str} (h : H l = some (.lst (zs.map V.str))) : Dp K H (.ref l) (.list (zs.map PyData.str)) := .lst (SqL.of h) (dp_strs zs)

/-! ### what is told agrees -/
section
variable {P : Program} {w : World} {K : PySem.W.Frag} {mg : Str → Option Value} {base : Heap}
theorem RV.kp {RC A q : Addr} {H H' : Hp} {xs : List (Key × V)} {x : Rat} {n : Nat} (hD : H A = some (.dK xs)) (k : ∀ c o, c ≠ A → H c = some o → H' c = some o) (r : RV RC H q x n) : RV RC H' q x n := by
  obtain ⟨t, b, ⟨dx, hq⟩, h4⟩ := r
  exact ⟨t, b, ⟨dx, k _ _ (fun z => by rw [z, hD] at hq; cases hq) hq⟩, h4⟩
theorem PV.kp {A q : Addr} {H H' : Hp} {xs : List (Key × V)} {x : Rat} {n : Nat} (hD : H A = some (.dK xs)) (k : ∀ c o, c ≠ A → H c = some o → H' c = some o) (r : PV H q x n) : PV H' q x n := by
  obtain ⟨t, b, hq, h4⟩ := r
  have hq : H q = some (.tup _) := hq
  exact ⟨t, b, k _ _ (fun z => by rw [z, hD] at hq; cases hq) hq, h4⟩
def spAgrees (RC : Addr) : Sp := fun vs H Q _ => ∃ (D A : Addr) (n m : Nat) (es fs : Tab Rat), vs = [.ref D, .ref A] ∧ DictR RC H D fs n ∧ DictP H A es m ∧ TabOk es ∧ fs.Perm es ∧ ∀ H', Same H H' → Q (.bl true) H'
theorem ok_agrees54 (T : Txt K mg) : FnOk P w K mg base CX0 4 T.f_agrees T.d_agrees ["_law_told", "_law_table_here"] (spAgrees T.f_Ratio) := by
  have G_is : FnOk P w K mg base CX0 3 T.f_is T.d_is ["_law_actual", "_law_pair"] (spIsV T.f_Ratio) := okv_is T
  refine T.F_agrees.ok sc_agrees (fun vs H Q E h => ?_) (fun cdv A outer s H vs Q E hr h => ?_)
  · obtain ⟨D, A, n, m, es, fs, rfl, _⟩ := h
    rfl
  · obtain ⟨D, A', n, m, es, fs, rfl, hD, hA, ok, pm, k⟩ := h
    refine ⟨_, (pss_cons (ps_if (PW.pt (pw_or (pt_not (pt_val (pe_callB call_isi (by rfl) T.n_isinstance (by decide +kernel) (pa_cons (pv 0) (pa_cons (pe_bltn (v := .ty "dict") (u := .type "dict") (by rfl) T.n_dict (by decide +kernel) rfl) pa_nil))))) (pw_or1 (pt_cmpR (op_neD hr.units) (pe_callB (call_sortedD rfl) (by rfl) T.n_sorted (by decide +kernel) (pa_cons (pv 0) pa_nil)) (pe_callB (call_sortedD rfl) (by rfl) T.n_sorted (by decide +kernel) (pa_cons (pv 1) pa_nil)) (nomark _)))))
      (pss_one (ps_ret pe_bl))
      pss_nil)
    (pss_one (ps_ret (pe_cmpR (op_eqD hr.units) (pe_lock (pe_lc (own := [("_law_word", 2)]) (g := gName 2) rfl sc_agrees.nd (pi_keys (pv 1)) (blkOk_by (N := ["_law_told", "_law_table_here", "_law_word"]) (sc := defScope s_agrees) (by decide +kernel)) (fun _ _ _ _ _ => pg_name (i := 2) sc_agrees.nd rfl (Or.inl rfl)) (fun _ _ _ _ _ => pts_one (pt_not (pt_val (pe_call G_is (hr.mono (by decide)) rfl T.m_is T.F_is.kp T.b_is .nil pass0 (pa_cons (pe_dget (hu_of hr) (pv 0) (pv 2) (fun _ _ => rfl)) (pa_cons (pe_dget (hu_of hr) (pv 1) (pv 2) (fun _ _ => rfl)) pa_nil)))))) (fun _ _ _ _ _ => (pv 2)))) (pe_lst pa_nil) (nomark _))))), ?_⟩
    obtain ⟨ks, eD, pD⟩ := id hD
    obtain ⟨ka, eA, pA⟩ := id hA
    have hpm : (nms fs).Perm (nms es) := pm.map _
    have hl6 : (nms es).length < 64 := by
      have := ok.few
      unfold nms
      rw [List.length_map]
      omega
    refine ⟨_, rfl, .ref D, .ty "dict", .type "dict", .type "dict", true, rfl, .ty _, .base (.dK eD), kit_ty (by decide +kernel), true, rfl, iteF ?_⟩
    refine ⟨_, rfl, D, ks, nms fs, rfl, .inl eD, keysI pD, by rw [hpm.length_eq]; exact hl6, fun ys p1 hys srt np1 => ?_⟩
    have s1 := same_upd (o := .lst (ys.map V.str)) np1
    refine ⟨_, rfl, A', ka, nms es, rfl, .inl (s1 _ _ eA), keysI pA, hl6, fun zs p2 hzs srt2 np2 => ?_⟩
    have s2 := same_upd (o := .lst (zs.map V.str)) np2
    have wy : ∀ z ∈ zs, Wn z := fun z hz => ok.wn z (hzs.mem_iff.mp hz)
    have ey : ys = zs := sorted_one (hys.trans (hpm.trans hzs.symm)) srt srt2
    subst ey
    have s12 := s1.trans s2
    refine ⟨_, _, dp_txts (s2 _ _ upd_same), dp_txts upd_same, shaped_txts wy, shaped_txts wy, ?_⟩
    rw [eqv_txts, decide_eq_true rfl]
    generalize upd (upd H p1 (.lst (ys.map V.str))) p2 (.lst (ys.map V.str)) = H2 at s12 ⊢
    refine ⟨_, rfl, iteF ?_⟩
    refine ⟨A', .dK ka, s12 _ _ eA, True.intro, fun od => ?_⟩
    have eLA : (upd H2 A' (.frz od (.dK ka))) A' = some (.frz od (.dK ka)) := upd_same
    have kL : ∀ c o, c ≠ A' → H c = some o → (upd H2 A' (.frz od (.dK ka))) c = some o := fun c o h1 h2 => by rw [upd_ne h1]; exact s12 _ _ h2
    have hback : ∀ H' : Hp, (∀ c o, c ≠ A' → H c = some o → H' c = some o) → Same H (upd H' A' (.dK ka)) := fun H' hk c o hc => by
      by_cases e : c = A'
      · rw [e, upd_same, ← eA, ← e]; exact hc
      · rw [upd_ne e]; exact hk c o e hc
    generalize upd H2 A' (.frz od (.dK ka)) = HL at eLA kL ⊢
    refine ⟨_, rfl, A', od, rfl, .inl ⟨ka, eLA, fun D2 nD2 => ?_⟩⟩
    have D2A : D2 ≠ A' := fun z => by rw [z, eLA] at nD2; cases nD2
    have fD2 : H D2 = none := by
      cases e : H D2 with
      | none => rfl
      | some o => rw [kL D2 o D2A e] at nD2; cases nD2
    refine lc_it walk_keys (fun i H' => H' A' = some (.frz od (.dK ka)) ∧ (∀ c o, c ≠ A' → H c = some o → H' c = some o) ∧ H' D2 = some (.lst [])) ⟨by rw [upd_ne D2A.symm]; exact eLA, fun c o h1 h2 => by rw [upd_ne (ne_of_none h2 fD2)]; exact kL c o h1 h2, upd_same⟩ (fun i H' _ h => h.1) ?_ ?_
    · rintro i x H3 H4 hi ⟨h1, h2, h3⟩ ⟨rfl, kk, v, hi', rfl⟩
      obtain ⟨e, he, hk, q, hv, pq⟩ := pair_at pA hi'
      have hk : kk = .inr e.1 := hk
      have hv : v = .ref q := hv
      subst hk hv
      refine ⟨rfl, ?_⟩
      have ndf : (nms fs).Nodup := hpm.nodup_iff.mpr ok.nd
      have hfnd : fnd fs e.1 = some e.2 := by
        rw [fnd_perm pm ndf]
        exact fnd_mem ok.nd (List.mem_of_getElem? he)
      obtain ⟨q', hq', rq⟩ : ∃ q', valV ks (.inr e.1 : Key) = some (.ref q') ∧ RV T.f_Ratio H q' e.2 n := by
        rcases val_of (n := e.1) pD with ⟨f1, _⟩ | ⟨y, v, f1, f2, q2, hv2, hq2⟩
        · rw [hfnd] at f1; cases f1
        · rw [hfnd] at f1
          obtain rfl := Option.some.inj f1
          exact ⟨q2, by rw [f2, hv2], hq2⟩
      have hvA : valV ka (.inr e.1 : Key) = some (.ref q) := valV_mem ka (keys_nodup pA ok.nd) (List.mem_of_getElem? hi')
      have hgA : DGet H4 A' (kV (.inr e.1)) (some (.ref q)) := .inl ⟨ka, .inr e.1, .inr ⟨od, h1⟩, rfl, hvA.symm⟩
      have hgD : DGet H4 D (kV (.inr e.1)) (some (.ref q')) := by
        by_cases z : D = A'
        · have ek : ks = ka := by
            rw [z, eA] at eD
            injection eD with eD
            injection eD with eD
            exact eD.symm
          rw [z]
          exact .inl ⟨ka, .inr e.1, .inr ⟨od, h1⟩, rfl, by rw [← ek]; exact hq'.symm⟩
        · exact .inl ⟨ks, .inr e.1, .inl (h2 D _ z eD), rfl, hq'.symm⟩
      refine ⟨_, rfl, _, rfl, D, .ref q', rfl, hgD, _, rfl, _, rfl, A', .ref q, rfl, hgA, q', q, e.2, n, m, rfl, rq.kp eA h2, pq.kp eA h2, fun H5 s5 => ?_⟩
      refine ⟨_, rfl, ?_⟩
      exact ⟨s5 _ _ h1, fun c o hc ho => s5 _ _ (h2 c o hc ho), s5 _ _ h3⟩
    · rintro H3 ⟨h1, h2, h3⟩
      refine ⟨h1, Nat.zero_le _, fun Z nZ => ?_⟩
      have hs := hback H3 h2
      have e2 : (upd H3 A' (.dK ka)) D2 = some (.lst []) := by rw [upd_ne D2A]; exact h3
      generalize upd H3 A' (.dK ka) = H5 at hs e2 nZ ⊢
      have s5 := same_upd (o := .lst []) nZ
      refine ⟨_, _, .lst (SqL.of (s5 _ _ e2)) .nil, .lst (SqL.of upd_same) .nil, by decide +kernel, by decide +kernel, ?_⟩
      rw [show PyData.eqv (.list []) (.list []) = true from by decide +kernel]
      exact k _ (hs.trans s5)
end

/-! ### the table nearby -/
section
theorem mEq_len {α : Type} [DecidableEq α] {es fs : Tab α} (h : es.length ≠ fs.length) : mEq es fs = false := by
  unfold mEq
  rw [decide_eq_false h, Bool.false_and]
theorem mEq_at {α : Type} [DecidableEq α] {es fs : Tab α} {n : Str} {x : α} (h : (n, x) ∈ es) (hx : fnd fs n ≠ some x) : mEq es fs = false := by
  unfold mEq
  rw [Bool.and_eq_false_iff]
  right
  rw [List.all_eq_false]
  exact ⟨_, h, by simpa using hx⟩
theorem nms_put {α : Type} {es : Tab α} {n : Str} {x : α} (h : n ∈ nms es) : nms (put es n x) = nms es := by
  unfold put
  rw [if_pos h]
  unfold nms
  rw [List.map_map]
  refine List.map_congr_left fun q _ => ?_
  show (if q.1 = n then (q.1, x) else q).1 = q.1
  by_cases e : q.1 = n
  · rw [if_pos e]
  · rw [if_neg e]
theorem mem_put {α : Type} {es : Tab α} {n : Str} {x : α} (h : n ∈ nms es) : (n, x) ∈ put es n x := by
  unfold put
  rw [if_pos h]
  obtain ⟨e, he, rfl⟩ := List.mem_map.mp h
  refine List.mem_map.mpr ⟨e, he, ?_⟩
  rw [if_pos rfl]
theorem near_put {es : Tab Rat} {n : Str} {x y : Rat} (nd : (nms es).Nodup) (h : (n, x) ∈ es) (hy : y ≠ x) : mEq es (put es n y) = false ∧ mEq (put es n y) es = false := by
  have hn : n ∈ nms es := List.mem_map_of_mem (f := (·.1)) h
  have hp := mem_put (x := y) hn
  have ndp : (nms (put es n y)).Nodup := by rw [nms_put hn]; exact nd
  refine ⟨mEq_at h ?_, mEq_at hp ?_⟩
  · rw [fnd_mem ndp hp]
    exact fun z => hy (Option.some.inj z)
  · rw [fnd_mem nd h]
    exact fun z => hy (Option.some.inj z).symm
theorem drop_len {es : Tab Rat} {n : Str} (h : n ∈ nms es) : (es.filter fun e => decide (e.1 ≠ n)).length < es.length := by
  obtain ⟨e, he, rfl⟩ := List.mem_map.mp h
  exact List.length_filter_lt_length_iff_exists.mpr ⟨e, he, by simp⟩
theorem TabOk.drop {es : Tab Rat} (ok : TabOk es) (n : Str) : TabOk (es.filter fun e => decide (e.1 ≠ n)) := by
  have sub : (es.filter fun e => decide (e.1 ≠ n)).Sublist es := List.filter_sublist
  have sub2 : (nms (es.filter fun e => decide (e.1 ≠ n))).Sublist (nms es) := sub.map fun q : Str × Rat => q.1
  exact ⟨sub2.nodup ok.nd, Nat.le_trans sub.length_le ok.few, fun z hz => ok.wn z (sub2.mem hz)⟩
theorem TabOk.put {es : Tab Rat} (ok : TabOk es) {n : Str} {x : Rat} (h : n ∈ nms es) : TabOk (My.put es n x) := by
  have e := nms_put (x := x) h
  refine ⟨by rw [e]; exact ok.nd, ?_, by rw [e]; exact ok.wn⟩
  have hl : ∀ l : Tab Rat, l.length = (nms l).length := fun l => by unfold nms; rw [List.length_map]
  rw [hl, e, ← hl]
  exact ok.few
variable {P : Program} {w : World} {K : PySem.W.Frag} {mg : Str → Option Value} {base : Heap}
theorem DictP.mono {H : Hp} {a : Addr} {es : Tab Rat} {n n' : Nat} (d : DictP H a es n) (h : n ≤ n') : DictP H a es n' := let ⟨ks, e, p⟩ := d; ⟨ks, e, paired_on (fun _ _ ⟨h1, q, h2, t, b, h3, l, ev, sz⟩ => ⟨h1, q, h2, t, b, h3, l, ev, sz.mono h⟩) p⟩
theorem pv_up {H : Hp} {a : Addr} (e : H a = some (.tup [.int 1, .int 1])) : PV H a 1 3 := ⟨1, 1, e, by unfold Low; decide, by unfold vq; decide +kernel, by unfold Sz; decide⟩
theorem pv_dn {H : Hp} {a : Addr} (e : H a = some (.tup [.int (-1), .int 7])) : PV H a (-1 / 7) 3 := ⟨-1, 7, e, by unfold Low; decide, by unfold vq; decide +kernel, by unfold Sz; decide⟩
def spNear : Sp := fun vs H Q _ => ∃ (st A : Addr) (m : Nat) (G : Hp) (es : Tab Rat), vs = [.ref st, .ref A] ∧ DSt G H st m ∧ m + 20 < 900000 ∧ DictP G A es 11 ∧ TabOk es ∧ es ≠ [] ∧ ∀ (D : Addr) (fs : Tab Rat) H' G', Same G G' → G D = none → DSt G' H' st (m + 20) → DictP G' D fs 16 → TabOk fs → mEq es fs = false → mEq fs es = false → Q (.ref D) H'
theorem ok_near (T : Txt K mg) : FnOk P w K mg base CX0 3 T.f_near T.d_near ["_law_state", "_law_table_here"] spNear := by
  have G_draw : FnOk P w K mg base CX0 1 T.f_draw T.d_draw ["_law_state", "_law_size"] spDraw := ok_draw T
  have G_plus : FnOk P w K mg base CX0 2 T.f_plus T.d_plus ["_law_one", "_law_two"] spPlusV := okv_plus T
  refine T.F_near.ok sc_near (fun vs H Q E h => ?_) (fun cdv A outer s H vs Q E hr h => ?_)
  · obtain ⟨st, A, m, G, es, rfl, _⟩ := h
    rfl
  · obtain ⟨st, A', m, G, es, rfl, d, hm, hA, ok, hne, k⟩ := h
    have z2 : 2 ≤ sizeLine := by decide
    refine ⟨_, (pss_cons (ps_set (i := 2) sc_near.nd rfl (Or.inl rfl) (pe_callTy call_dictD (by rfl) T.n_dict (by decide +kernel) (pa_cons (pv 1) pa_nil)))
    (pss_cons (ps_set (i := 3) sc_near.nd rfl (Or.inl rfl) (pe_ix ix_list (pe_callB (call_sortedD rfl) (by rfl) T.n_sorted (by decide +kernel) (pa_cons (pv 2) pa_nil)) (pe_call G_draw (hr.mono (by decide)) rfl T.m_draw T.F_draw.kp T.b_draw .nil pass0 (pa_cons (pv 0) (pa_cons (pe_callB call_lenD (by rfl) T.n_len (by decide +kernel) (pa_cons (pv 2) pa_nil)) pa_nil))) (fun _ _ => rfl)))
    (C8.pss_cut (ps_if (PW.pt (pw_and (pt_cmpR op_gt (pe_callB call_lenD (by rfl) T.n_len (by decide +kernel) (pa_cons (pv 2) pa_nil)) pe_int (nomark _)) (pw_and1 (pt_cmpR op_eq (pe_call G_draw (hr.mono (by decide)) rfl T.m_draw T.F_draw.kp T.b_draw .nil pass0 (pa_cons (pv 0) (pa_cons pe_int pa_nil))) pe_int (nomark _)))))
      (pss_one (ps_expr (pe_dpop1 (pv 2) (pv 3) ⟨rfl, rfl, rfl, rfl⟩)))
      (pss_one (ps_asg (pe_call G_plus (hr.mono (by decide)) rfl T.m_plus T.F_plus.kp T.b_plus .nil pass0 (pa_cons (pe_dget (hu_of hr) (pv 2) (pv 3) (fun _ _ => rfl)) (pa_cons (pe_ix ix_list (pe_lst (pa_cons (pe_tup (pa_cons pe_int (pa_cons pe_int pa_nil))) (pa_cons (pe_tup (pa_cons (pe_un un_neg pe_int) (pa_cons pe_int pa_nil))) pa_nil))) (pe_call G_draw (hr.mono (by decide)) rfl T.m_draw T.F_draw.kp T.b_draw .nil pass0 (pa_cons (pv 0) (pa_cons pe_int pa_nil))) (fun _ _ => rfl)) pa_nil))) (pg_sub (pv 2) (pv 3) (set_dict (hu_of hr))))))
    (pss_one (ps_ret (pv 2)))))), ?_⟩
    obtain ⟨ka, eA, pA⟩ := id hA
    refine ⟨_, rfl, A', ka, rfl, .inl (d.same _ _ eA), fun D nD => ?_⟩
    have d0 := d.new (o := .dK ka) nD
    have fD := d.free nD
    have s0 := same_upd (o := .dK ka) fD
    have eD0 : (upd G D (.dK ka)) D = some (.dK ka) := upd_same
    have pD0 := (show DictP (upd G D (.dK ka)) D es 11 from ⟨ka, upd_same, paired_on (fun _ _ ⟨h1, q, h2, h3⟩ => ⟨h1, q, h2, h3.on s0⟩) pA⟩)
    generalize upd G D (.dK ka) = G0 at d0 s0 eD0 pD0
    have hk64 : (nms es).length < 64 := by
      have := ok.few
      unfold nms
      rw [List.length_map]
      omega
    refine ⟨_, rfl, D, ka, nms es, rfl, .inl (d0.same _ _ eD0), keysI pA, hk64, fun ys p1 hys srt np1 => ?_⟩
    have d1 := d0.new (o := .lst (ys.map V.str)) np1
    have s1 := s0.trans (same_upd (o := .lst (ys.map V.str)) (d0.free np1))
    have eD1 := (same_upd (o := .lst (ys.map V.str)) (d0.free np1)) _ _ eD0
    have e1 : (upd G0 p1 (.lst (ys.map V.str))) p1 = some (.lst (ys.map V.str)) := upd_same
    have pD1 := pD0.on (same_upd (o := .lst (ys.map V.str)) (d0.free np1))
    generalize upd G0 p1 (.lst (ys.map V.str)) = G1 at d1 s1 eD1 e1 pD1
    have ndy : ys.Nodup := hys.nodup_iff.mpr ok.nd
    have hkl : ka.length = es.length := pA.length
    have hl : es.length = (nms es).length := by unfold nms; rw [List.length_map]
    have hyl : ys.length = es.length := by rw [hys.length_eq, ← hl]
    have hpos : 0 < es.length := Nat.pos_of_ne_zero fun z => hne (List.length_eq_zero_iff.mp z)
    have f6 := ok.few
    refine ⟨_, rfl, _, rfl, D, ka, rfl, d1.same _ _ eD1, G1, st, m, (ka.length : Int), rfl, d1, by omega, by omega, by rw [hkl]; exact Int.lt_of_le_of_lt (show ((es.length : Nat) : Int) ≤ 6 by omega) (by decide), fun r H2 r0 r1 d2 => ?_⟩
    obtain ⟨rn, rfl⟩ := Int.eq_ofNat_of_zero_le r0
    have hrn : rn < ys.length := by omega
    obtain ⟨z, hz⟩ : ∃ z, ys[rn]? = some z := ⟨_, List.getElem?_eq_getElem hrn⟩
    have hzm : z ∈ nms es := hys.mem_iff.mp (List.mem_of_getElem? hz)
    obtain ⟨e, he, rfl⟩ := List.mem_map.mp hzm
    refine ⟨p1, _, (rn : Int), _, rfl, rfl, SqL.of (d2.same _ _ e1), atI_nat (by rw [List.getElem?_map, hz]; rfl), ?_⟩
    refine ⟨fun σ H' => ∃ (x3 : Option V) (G' : Hp) (fs : Tab Rat), σ = [some (.ref st), some (.ref A'), some (.ref D), x3] ∧ DSt G' H' st (m + 20) ∧ Same G G' ∧ DictP G' D fs 16 ∧ TabOk fs ∧ mEq es fs = false ∧ mEq fs es = false, ?_, ?_⟩
    · obtain ⟨q, hv, pq⟩ : ∃ q, valV ka (.inr e.1 : Key) = some (.ref q) ∧ PV G1 q e.2 11 := by
        obtain ⟨ka2, q, e2, h1, h2⟩ := dictP_at pD1 ok.nd (z := e.1) (x := e.2) he
        rw [eD1] at e2
        injection e2 with e2
        injection e2 with e2
        exact ⟨q, by rw [e2]; exact h1, h2⟩
      refine ⟨_, rfl, D, ka, rfl, d2.same _ _ eD1, _, _, rfl, rfl, _, rfl, ite2 (fun h1 => ?_) fun h1 => iteF ?_⟩
      · refine ⟨_, rfl, G1, st, _, 3, rfl, d2, by omega, by decide, by decide, fun r3 H3 r30 r31 d3 => ?_⟩
        refine ⟨rfl, _, rfl, ite2 (fun _ => ?_) fun _ => ?_⟩
        · refine ⟨_, rfl, D, rfl, .inl ⟨ka, .inl (d3.same _ _ eD1)⟩, _, rfl, ka, .inr e.1, .ref q, d3.same _ _ eD1, rfl, hv, ?_⟩
          have hdl := drop_len hzm
          refine ⟨_, upd G1 D (.dK (dropK ka (.inr e.1))), es.filter fun x => decide (x.1 ≠ e.1), rfl, (d3.put eD1).mono (by omega), same_mut s1 fD, ⟨_, upd_same, ?_⟩, ok.drop e.1, mEq_len (by omega), mEq_len (by omega)⟩
          refine drop_ok ?_
          obtain ⟨ka3, e3, pk3⟩ := pD1.mono (n' := 16) (by decide)
          rw [eD1] at e3
          injection e3 with e3
          injection e3 with e3
          subst e3
          exact paired_on (fun _ _ ⟨g1, q', g2, g3⟩ => ⟨g1, q', g2, g3.dput eD1⟩) pk3
        · have d4 := d3.mono (m' := m + 2) (by omega)
          refine ⟨_, rfl, _, rfl, D, .ref q, rfl, by rw [← hv]; exact DGet.k (k := .inr e.1) (d4.same _ _ eD1), ?_⟩
          refine ⟨z2, fun t1 nt1 => ⟨1, rfl, z2, fun t2 nt2 => ⟨z2, fun L nL => ?_⟩⟩⟩
          have d5 := ((d4.new (o := .tup [.int 1, .int 1]) nt1).new (o := .tup [.int (-1), .int 7]) nt2).new (o := .lst [.ref t1, .ref t2]) nL
          have g1 : G1 t1 = none := d4.free nt1
          have g2 : (upd G1 t1 (.tup [.int 1, .int 1])) t2 = none := (d4.new nt1).free nt2
          have g3 : (upd (upd G1 t1 (.tup [.int 1, .int 1])) t2 (.tup [.int (-1), .int 7])) L = none := ((d4.new nt1).new nt2).free nL
          have sa : Same G1 (upd G1 t1 (.tup [.int 1, .int 1])) := same_upd g1
          have sb := same_upd (o := .tup [.int (-1), .int 7]) g2
          have sc := same_upd (o := .lst [.ref t1, .ref t2]) g3
          have p1 : PV (upd (upd (upd G1 t1 (.tup [.int 1, .int 1])) t2 (.tup [.int (-1), .int 7])) L (.lst [.ref t1, .ref t2])) t1 1 3 := ((pv_up upd_same).on sb).on sc
          have p2 : PV (upd (upd (upd G1 t1 (.tup [.int 1, .int 1])) t2 (.tup [.int (-1), .int 7])) L (.lst [.ref t1, .ref t2])) t2 (-1 / 7) 3 := (pv_dn upd_same).on sc
          have eL : (upd (upd (upd G1 t1 (.tup [.int 1, .int 1])) t2 (.tup [.int (-1), .int 7])) L (.lst [.ref t1, .ref t2])) L = some (.lst [.ref t1, .ref t2]) := upd_same
          have s5 := (sa.trans sb).trans sc
          generalize upd (upd (upd G1 t1 (.tup [.int 1, .int 1])) t2 (.tup [.int (-1), .int 7])) L (.lst [.ref t1, .ref t2]) = G5 at d5 p1 p2 eL s5
          refine ⟨_, rfl, G5, st, _, 2, rfl, d5, by omega, by decide, by decide, fun r6 H6 r60 r61 d6 => ?_⟩
          obtain ⟨t, y, hat, py, hy⟩ : ∃ t y, atI [V.ref t1, V.ref t2] r6 = some (V.ref t) ∧ PV G5 t y 3 ∧ e.2 + y ≠ e.2 := by
            have : r6 = 0 ∨ r6 = 1 := by omega
            rcases this with rfl | rfl
            · exact ⟨t1, 1, rfl, p1, by grind⟩
            · exact ⟨t2, -1 / 7, rfl, p2, by grind⟩
          refine ⟨L, _, _, _, rfl, rfl, SqL.of (d6.same _ _ eL), hat, q, t, e.2, y, 11, 3, rfl, (pq.on s5).on d6.same, py.on d6.same, by decide, by decide, fun q7 H7 nq7 s7 p7 => ?_⟩
          obtain ⟨G7, d7, sg, nl7⟩ := (d6.on s7).grow
          have eD7 := sg _ _ (s5 _ _ eD1)
          refine ⟨_, rfl, _, rfl, D, _, rfl, DPut.k (k := .inr e.1) (d7.same _ _ eD7) (small1000 (by omega)), ?_⟩
          obtain ⟨hm1, hm2⟩ := near_put ok.nd he hy
          refine ⟨_, upd G7 D (.dK (putK ka (.inr e.1) (.ref q7))), _, rfl, (d7.put eD7).mono (by omega), same_mut ((s1.trans s5).trans sg) fD, ⟨_, upd_same, ?_⟩, ok.put hzm, hm1, hm2⟩
          refine put_ok ?_ ⟨q7, rfl, ((p7.nl nl7).dput eD7).mono (by decide)⟩
          obtain ⟨ka3, e3, pk3⟩ := ((pD1.mono (n' := 16) (by decide)).on s5).on sg
          rw [eD7] at e3
          injection e3 with e3
          injection e3 with e3
          subst e3
          exact paired_on (fun _ _ ⟨g1, q', g2, g3⟩ => ⟨g1, q', g2, g3.dput eD7⟩) pk3
      · have d4 := d2.mono (m' := m + 2) (by omega)
        refine ⟨_, rfl, _, rfl, D, .ref q, rfl, by rw [← hv]; exact DGet.k (k := .inr e.1) (d4.same _ _ eD1), ?_⟩
        refine ⟨z2, fun t1 nt1 => ⟨1, rfl, z2, fun t2 nt2 => ⟨z2, fun L nL => ?_⟩⟩⟩
        have d5 := ((d4.new (o := .tup [.int 1, .int 1]) nt1).new (o := .tup [.int (-1), .int 7]) nt2).new (o := .lst [.ref t1, .ref t2]) nL
        have g1 : G1 t1 = none := d4.free nt1
        have g2 : (upd G1 t1 (.tup [.int 1, .int 1])) t2 = none := (d4.new nt1).free nt2
        have g3 : (upd (upd G1 t1 (.tup [.int 1, .int 1])) t2 (.tup [.int (-1), .int 7])) L = none := ((d4.new nt1).new nt2).free nL
        have sa : Same G1 (upd G1 t1 (.tup [.int 1, .int 1])) := same_upd g1
        have sb := same_upd (o := .tup [.int (-1), .int 7]) g2
        have sc := same_upd (o := .lst [.ref t1, .ref t2]) g3
        have p1 : PV (upd (upd (upd G1 t1 (.tup [.int 1, .int 1])) t2 (.tup [.int (-1), .int 7])) L (.lst [.ref t1, .ref t2])) t1 1 3 := ((pv_up upd_same).on sb).on sc
        have p2 : PV (upd (upd (upd G1 t1 (.tup [.int 1, .int 1])) t2 (.tup [.int (-1), .int 7])) L (.lst [.ref t1, .ref t2])) t2 (-1 / 7) 3 := (pv_dn upd_same).on sc
        have eL : (upd (upd (upd G1 t1 (.tup [.int 1, .int 1])) t2 (.tup [.int (-1), .int 7])) L (.lst [.ref t1, .ref t2])) L = some (.lst [.ref t1, .ref t2]) := upd_same
        have s5 := (sa.trans sb).trans sc
        generalize upd (upd (upd G1 t1 (.tup [.int 1, .int 1])) t2 (.tup [.int (-1), .int 7])) L (.lst [.ref t1, .ref t2]) = G5 at d5 p1 p2 eL s5
        refine ⟨_, rfl, G5, st, _, 2, rfl, d5, by omega, by decide, by decide, fun r6 H6 r60 r61 d6 => ?_⟩
        obtain ⟨t, y, hat, py, hy⟩ : ∃ t y, atI [V.ref t1, V.ref t2] r6 = some (V.ref t) ∧ PV G5 t y 3 ∧ e.2 + y ≠ e.2 := by
          have : r6 = 0 ∨ r6 = 1 := by omega
          rcases this with rfl | rfl
          · exact ⟨t1, 1, rfl, p1, by grind⟩
          · exact ⟨t2, -1 / 7, rfl, p2, by grind⟩
        refine ⟨L, _, _, _, rfl, rfl, SqL.of (d6.same _ _ eL), hat, q, t, e.2, y, 11, 3, rfl, (pq.on s5).on d6.same, py.on d6.same, by decide, by decide, fun q7 H7 nq7 s7 p7 => ?_⟩
        obtain ⟨G7, d7, sg, nl7⟩ := (d6.on s7).grow
        have eD7 := sg _ _ (s5 _ _ eD1)
        refine ⟨_, rfl, _, rfl, D, _, rfl, DPut.k (k := .inr e.1) (d7.same _ _ eD7) (small1000 (by omega)), ?_⟩
        obtain ⟨hm1, hm2⟩ := near_put ok.nd he hy
        refine ⟨_, upd G7 D (.dK (putK ka (.inr e.1) (.ref q7))), _, rfl, (d7.put eD7).mono (by omega), same_mut ((s1.trans s5).trans sg) fD, ⟨_, upd_same, ?_⟩, ok.put hzm, hm1, hm2⟩
        refine put_ok ?_ ⟨q7, rfl, ((p7.nl nl7).dput eD7).mono (by decide)⟩
        obtain ⟨ka3, e3, pk3⟩ := ((pD1.mono (n' := 16) (by decide)).on s5).on sg
        rw [eD7] at e3
        injection e3 with e3
        injection e3 with e3
        subst e3
        exact paired_on (fun _ _ ⟨g1, q', g2, g3⟩ => ⟨g1, q', g2, g3.dput eD7⟩) pk3
    · rintro σ H3 ⟨x3, G3, fs, rfl, d3, s3, hD3, ok3, m1, m2⟩
      exact ⟨_, rfl, k D fs _ G3 s3 fD d3 hD3 ok3 m1 m2⟩
end

/-! ### what the law keeps in mind -/
section
variable {P : Program} {w : World} {K : PySem.W.Frag} {mg : Str → Option Value} {base : Heap}
theorem NL.trans {H G I : Hp} (a : NL H G) (b : NL G I) : NL H I := fun p o h n => b p o (a p o h n) n
theorem nl_same {H G : Hp} (s : Same H G) : NL H G := fun p o h _ => s p o h
theorem DictP.nl {H G : Hp} {a : Addr} {es : Tab Rat} {n : Nat} (d : DictP H a es n) (k : NL H G) : DictP G a es n := let ⟨ks, e, p⟩ := d; ⟨ks, k _ _ e (fun _ z => nomatch z), paired_on (fun _ _ ⟨h1, q, h2, h3⟩ => ⟨h1, q, h2, h3.nl k⟩) p⟩
theorem DictR.nl {RC : Addr} {H G : Hp} {a : Addr} {es : Tab Rat} {n : Nat} (d : DictR RC H a es n) (k : NL H G) : DictR RC G a es n := let ⟨ks, e, p⟩ := d; ⟨ks, k _ _ e (fun _ z => nomatch z), paired_on (fun _ _ ⟨h1, q, h2, h3⟩ => ⟨h1, q, h2, h3.nl k⟩) p⟩
theorem DictN.nl {RC : Addr} {H G : Hp} {a : Addr} {es : Tab Rat} {n : Nat} (d : DictN RC H a es n) (k : NL H G) : DictN RC G a es n := let ⟨ks, e, p⟩ := d; ⟨ks, k _ _ e (fun _ z => nomatch z), paired_on (fun _ _ ⟨h1, h3⟩ => ⟨h1, h3.nl k⟩) p⟩
theorem StandAt.nl {C RC : Addr} {H G : Hp} {p a b : Addr} {es fs : Tab Rat} {n : Nat} (t : StandAt C RC H p a b es fs n) (k : NL H G) : StandAt C RC G p a b es fs n := let ⟨⟨dx, e⟩, h1, h2⟩ := t; ⟨⟨dx, k _ _ e (fun _ z => nomatch z)⟩, h1.nl k, h2.nl k⟩
/-- a dict in a dict's stead -/
theorem DictP.dput {H : Hp} {D a : Addr} {xs : List (Key × V)} {o : HO} {es : Tab Rat} {n : Nat} (hD : H D = some (.dK xs)) (ne : a ≠ D) (d : DictP H a es n) : DictP (upd H D o) a es n := let ⟨ks, e, p⟩ := d; ⟨ks, by rw [upd_ne ne]; exact e, paired_on (fun _ _ ⟨h1, q, h2, h3⟩ => ⟨h1, q, h2, h3.dput hD⟩) p⟩
theorem DictR.dput {RC : Addr} {H : Hp} {D a : Addr} {xs : List (Key × V)} {o : HO} {es : Tab Rat} {n : Nat} (hD : H D = some (.dK xs)) (ne : a ≠ D) (d : DictR RC H a es n) : DictR RC (upd H D o) a es n := let ⟨ks, e, p⟩ := d; ⟨ks, by rw [upd_ne ne]; exact e, paired_on (fun _ _ ⟨h1, q, h2, h3⟩ => ⟨h1, q, h2, h3.dput hD⟩) p⟩
theorem StandAt.dput {C RC : Addr} {H : Hp} {D p a b : Addr} {xs : List (Key × V)} {o : HO} {es fs : Tab Rat} {n : Nat} (hD : H D = some (.dK xs)) (na : a ≠ D) (nb : b ≠ D) (t : StandAt C RC H p a b es fs n) : StandAt C RC (upd H D o) p a b es fs n := let ⟨⟨dx, e⟩, h1, h2⟩ := t; ⟨⟨dx, by rw [upd_ne (fun z => by rw [z, hD] at e; cases e)]; exact e⟩, h1.dput hD na, h2.dput hD nb⟩
theorem DictR.at_ne {RC : Addr} {H : Hp} {a b : Addr} {es : Tab Rat} {n : Nat} (d : DictR RC H a es n) (h : H b = none) : a ≠ b := fun z => by
  obtain ⟨ks, e, _⟩ := d
  rw [z, h] at e
  cases e
theorem DictP.at_ne {H : Hp} {a b : Addr} {es : Tab Rat} {n : Nat} (d : DictP H a es n) (h : H b = none) : a ≠ b := fun z => by
  obtain ⟨ks, e, _⟩ := d
  rw [z, h] at e
  cases e
theorem DictN.here {RC : Addr} {H : Hp} {a : Addr} {es : Tab Rat} {n : Nat} {ks : List (Key × V)} (d : DictN RC H a es n) (e : H a = some (.dK ks)) : Paired (EntG fun v x => NV RC H v x n) ks es := by
  obtain ⟨ls, e2, p⟩ := d
  rw [e] at e2
  injection e2 with e2
  injection e2 with e2
  rw [e2]
  exact p
theorem NV.grow {RC : Addr} {H : Hp} {v : V} {x : Rat} {n m : Nat} (r : NV RC H v x n) (h : n ≤ m) : NV RC H v x m := let ⟨t, b, h1, h2, h3, h4⟩ := r; ⟨t, b, h1, h2, h3, h4.mono h⟩
theorem DictN.mono {RC : Addr} {H : Hp} {a : Addr} {es : Tab Rat} {n m : Nat} (d : DictN RC H a es n) (h : n ≤ m) : DictN RC H a es m := let ⟨ks, e, p⟩ := d; ⟨ks, e, paired_on (fun _ _ ⟨h1, h2⟩ => ⟨h1, h2.grow h⟩) p⟩
theorem DictN.at_ne {RC : Addr} {H : Hp} {a b : Addr} {es : Tab Rat} {n : Nat} (d : DictN RC H a es n) (h : H b = none) : a ≠ b := fun z => by
  obtain ⟨ks, e, _⟩ := d
  rw [z, h] at e
  cases e
/-- a standing is made -/
theorem stand_made {C RC p dp a b : Addr} {H : Hp} {es fs : Tab Rat} {n : Nat} {Q : VK} {E : XK} (np : H p = none) (ndp : H dp = none) (nep : p ≠ dp) (ha : DictN RC H a es n) (hb : DictN RC H b fs n) (hab : a ≠ b) (oe : TabOk es) (of : TabOk fs)
    (k : ∀ c d H', Same H H' → StandAt C RC H' p c d es fs n → H c = none → H d = none → Q .non H') : spStand C RC [.ref p, .ref a, .ref b] (upd (upd H dp (.own p)) p (.ins C dp [])) Q E := by
  have s1 : Same H (upd (upd H dp (.own p)) p (.ins C dp [])) := (same_upd ndp).trans (same_upd (by rw [upd_ne nep]; exact np))
  refine ⟨p, dp, a, b, es, fs, n, rfl, upd_same, ha.on s1, hb.on s1, hab, Nat.le_trans oe.few (by decide), Nat.le_trans of.few (by decide), oe.nd, of.nd, fun c d H' t hc hd _ kp => k c d H' (fun x o hx => kp x o (s1 _ _ hx) (ne_of_none hx np)) t (s1.free hc) (s1.free hd)⟩
theorem eqv_nv {RC : Addr} {H : Hp} {v : V} {x : Rat} {n : Nat} (h : NV RC H v x n) : EqV K H v v := by
  obtain ⟨t, b, nm, _⟩ := h
  rcases nm with ⟨e, _⟩ | ⟨p, e, _⟩
  · rw [e]
    exact .data (.int _) (.int _) rfl rfl (SeqAt.eqv_refl _ rfl)
  · rw [e]
    exact .same p
/-- a copy of a dict of numbers -/
theorem same_dN {RC : Addr} {H : Hp} {a b : Addr} {ks : List (Key × V)} {es : Tab Rat} {n : Nat} (ea : H a = some (.dK ks)) (eb : H b = some (.dK ks)) (hne : a ≠ b) (p : Paired (EntG fun v x => NV RC H v x n) ks es) (nd : (nms es).Nodup) : SameD K H (.ref a) (.ref b) := by
  refine ⟨a, b, ks, rfl, rfl, hne, ea, eb, keys_nodup p nd, fun q hq => ?_⟩
  obtain ⟨i, hi, ei⟩ := List.getElem_of_mem hq
  obtain ⟨e, _, _, h2⟩ := pair_at p (i := i) (x := q) (by rw [List.getElem?_eq_getElem hi, ei])
  exact eqv_nv h2
theorem eqv_pr (t b t' b' : Int) : PyData.eqv (.tuple [.int t, .int b]) (.tuple [.int t', .int b']) = decide (t = t' ∧ b = b') := by
  simp only [PyData.eqv, PyData.eqvAll]
  by_cases h1 : t = t' <;> by_cases h2 : b = b' <;> simp [h1, h2]
/-- != of two tables -/
theorem dict_neD {H : Hp} {a b : Addr} {es fs : Tab Rat} {n m : Nat} {Q : VK} (ha : DictP H a es n) (hb : DictP H b fs m) (q : Q (.bl (!mEq es fs)) H) : rNeDD K (.ref a) (.ref b) H Q := by
  obtain ⟨ks, ea, pa⟩ := ha
  obtain ⟨ls, eb, pb⟩ := hb
  refine ⟨a, b, ks, ls, fun i => match es[i]? with | some e => decide (fnd fs e.1 = some e.2) | none => true, mEq es fs, rfl, rfl, ea, eb, fun i k u hi => ?_, ?_, q⟩
  · obtain ⟨e, he, hk, p', hu, rp⟩ := pair_at pa hi
    have hk : k = .inr e.1 := hk
    have hu : u = .ref p' := hu
    subst hk hu
    dsimp only
    rw [he]
    dsimp only
    rcases val_of (n := e.1) pb with ⟨f1, f2⟩ | ⟨x, v, f1, f2, q', hv, rq⟩
    · exact .inl ⟨f2, by rw [f1]; rfl⟩
    · have hd : decide (fnd fs e.1 = some e.2) = decide (e.2 = x) := by
        rw [f1]
        exact decide_eq_decide.mpr ⟨fun z => (Option.some.inj z).symm, fun z => by rw [z]⟩
      rw [hd]
      obtain ⟨t, c, hp, l, ev, _⟩ := id rp
      obtain ⟨t', c', hq, l', ev', _⟩ := id rq
      have hv : v = .ref q' := hv
      subst hv
      refine .inr ⟨.ref q', .tuple [.int t, .int c], .tuple [.int t', .int c'], f2, .tup (SqT.of hp) (.cons (.int _) (.cons (.int _) .nil)), .tup (SqT.of hq) (.cons (.int _) (.cons (.int _) .nil)), rfl, rfl, ?_⟩
      rw [eqv_pr]
      refine decide_eq_decide.mpr ⟨fun h => by rw [← ev, ← ev', h.1, h.2], fun h => low_unique l l' (by rw [ev, ev', h])⟩
  · unfold mEq
    rw [Bool.and_eq_true, decide_eq_true_eq, List.all_eq_true, pa.length, pb.length]
    refine and_congr_right fun _ => ⟨fun h i hi => ?_, fun h e he => ?_⟩
    · dsimp only
      rw [List.getElem?_eq_getElem hi]
      exact h _ (List.getElem_mem hi)
    · obtain ⟨i, hi, ei⟩ := List.getElem_of_mem he
      have := h i hi
      dsimp only at this
      rw [List.getElem?_eq_getElem hi, ei] at this
      exact this
theorem TabOk.perm {es fs : Tab Rat} (ok : TabOk es) (p : fs.Perm es) : TabOk fs := by
  have p2 : (nms fs).Perm (nms es) := p.map fun q : Str × Rat => q.1
  exact ⟨p2.nodup_iff.mpr ok.nd, by rw [p.length_eq]; exact ok.few, fun z hz => ok.wn z (p2.mem_iff.mp hz)⟩
/-- another list in a list's stead -/
theorem DSt.lput {G H : Hp} {s L : Addr} {m : Nat} {xs ys : List V} (d : DSt G H s m) (e : G L = some (.lst xs)) : ∃ G', DSt G' (upd H L (.lst ys)) s m ∧ NL G G' ∧ G' L = some (.lst ys) ∧ ∀ p, G' p = none → G p = none := by
  refine ⟨upd G L (.lst ys), d.put e, fun p o h hn => ?_, upd_same, fun p h => ?_⟩
  · rw [upd_ne (fun z => by rw [z, e] at h; exact hn xs (Option.some.inj h).symm)]
    exact h
  · by_cases z : p = L
    · rw [z, upd_same] at h; cases h
    · rw [upd_ne z] at h; exact h
/-- all of a later heap is known -/
theorem DSt.step {G H H' : Hp} {s : Addr} {m : Nat} (d : DSt G H s m) (sm : Same H H') : ∃ G', DSt G' H' s m ∧ Same G G' ∧ NL H' G' := by
  obtain ⟨G', d', s', k⟩ := (d.on sm).grow
  exact ⟨G', d', s', k⟩
/-- a standing that differs from the held one -/
def Diff (C RC : Addr) (G : Hp) (c d : Addr) (f1 f2 : Tab Rat) (o : Addr) : Prop := ∃ (a b : Addr) (es fs : Tab Rat), StandAt C RC G o a b es fs 16 ∧ c ≠ a ∧ d ≠ b ∧ (mEq f1 es && mEq f2 fs) = false ∧ (mEq es f1 && mEq fs f2) = false
theorem Diff.nl {C RC : Addr} {G G' : Hp} {c d : Addr} {f1 f2 : Tab Rat} {o : Addr} (h : Diff C RC G c d f1 f2 o) (k : NL G G') : Diff C RC G' c d f1 f2 o := let ⟨a, b, es, fs, t, h2⟩ := h; ⟨a, b, es, fs, t.nl k, h2⟩
end

/-! ### the law -/
section
variable {P : Program} {w : World} {K : PySem.W.Frag} {mg : Str → Option Value} {base : Heap}
def spLaw (K : PySem.W.Frag) : Sp := fun vs H Q _ => ∃ (a : Addr) (ns : List Int), vs = [.ref a] ∧ SqL K H a (ns.map V.int) ∧ ns.length ≤ 63 ∧ ∀ H', Q (.bl true) H'
set_option maxHeartbeats 4000000 in
theorem ok_law {f : Addr} {fd : FuncData} (T : Txt K mg) (F : Fun K "law" "law" s_law f fd) : FnOk P w K mg base CX0 6 f fd ["_law_script"] (spLaw K) := by
  have G_start : FnOk P w K mg base CX0 1 T.f_start T.d_start ["_law_script"] (spStart K) := ok_start T
  have G_draw : FnOk P w K mg base CX0 1 T.f_draw T.d_draw ["_law_state", "_law_size"] spDraw := ok_draw T
  have G_table := ok_table (P := P) (w := w) (base := base) T
  have G_given := ok_given (P := P) (w := w) (base := base) T
  have G_near := ok_near (P := P) (w := w) (base := base) T
  have G_agrees := ok_agrees54 (P := P) (w := w) (base := base) T
  have G_Ratio_init : FnOk P w K mg base CX0 1 T.f_Ratio_init T.d_Ratio_init ["self", "top", "bottom"] (spInit T.f_Ratio) := ok_init T
  have G_Standing_init := ok_stand (P := P) (w := w) (base := base) T
  have G_Standing_loads := ok_loads (P := P) (w := w) (base := base) T
  have G_Standing_times := ok_times54 (P := P) (w := w) (base := base) T
  have G_Standing_eq := ok_eqS (P := P) (w := w) (base := base) T
  have GI_Standing_eq := ok_eqSI (P := P) (w := w) (base := base) T
  have z2 : 2 ≤ sizeLine := by decide
  have z1 : 1 ≤ sizeLine := by decide
  refine F.ok sc_law (fun vs H Q E h => ?_) (fun cdv A outer s0 H vs Q E hr h => ?_)
  · obtain ⟨S, ns, rfl, _⟩ := h
    rfl
  · obtain ⟨S, ns, rfl, hS, hns, k⟩ := h
    refine ⟨_, (pss_cons (ps_set (i := 1) sc_law.nd rfl (Or.inl rfl) (pe_call G_start (hr.mono (by decide)) rfl T.m_start T.F_start.kp T.b_start .nil pass0 (pa_cons (pv 0) pa_nil)))
    (pss_cons (ps_set (i := 2) sc_law.nd rfl (Or.inl rfl) (pe_call G_table (hr.mono (by decide)) rfl T.m_table T.F_table.kp T.b_table .nil pass0 (pa_cons (pv 1) pa_nil)))
    (pss_cons (ps_set (i := 3) sc_law.nd rfl (Or.inl rfl) (pe_call G_table (hr.mono (by decide)) rfl T.m_table T.F_table.kp T.b_table .nil pass0 (pa_cons (pv 1) pa_nil)))
    (pss_cons (ps_set (i := 4) sc_law.nd rfl (Or.inl rfl) (pe_lst (pa_cons (pe_call G_given (hr.mono (by decide)) rfl T.m_given T.F_given.kp T.b_given .nil pass0 (pa_cons (pv 1) (pa_cons (pv 2) pa_nil))) (pa_cons (pe_call G_given (hr.mono (by decide)) rfl T.m_given T.F_given.kp T.b_given .nil pass0 (pa_cons (pv 1) (pa_cons (pv 3) pa_nil))) pa_nil))))
    (pss_cons (ps_set (i := 5) sc_law.nd rfl (Or.inl rfl) (pe_lst (pa_cons (pe_callTy call_dictD (by rfl) T.n_dict (by decide +kernel) (pa_cons (pe_ix ix_list (pv 4) pe_int (fun _ _ => rfl)) pa_nil)) (pa_cons (pe_callTy call_dictD (by rfl) T.n_dict (by decide +kernel) (pa_cons (pe_ix ix_list (pv 4) pe_int (fun _ _ => rfl)) pa_nil)) pa_nil))))
    (pss_cons (ps_set (i := 6) sc_law.nd rfl (Or.inl rfl) (pe_makeK0 T.mk_Standing G_Standing_init (hr.mono (by decide)) rfl T.m_Standing T.kb_Standing_init_times_loads pass0 (pk_cons (pe_ix ix_list (pv 4) pe_int (fun _ _ => rfl)) (pk_cons (pe_ix ix_list (pv 4) pe_int (fun _ _ => rfl)) pk_nil))))
    (pss_cons (ps_if (pt_cmpR (op_neDicts (room128 hr)) (pv 4) (pv 5) (nomark _))
      (pss_one (ps_ret pe_bl))
      pss_nil)
    (pss_cons (ps_expr (pe_dclear (pe_ix ix_list (pv 4) pe_int (fun _ _ => rfl))))
    (pss_cons (ps_asg pe_int (pg_sub (pe_ix ix_list (pv 4) pe_int (fun _ _ => rfl)) pe_str (set_dict (hu_of hr))))
    (C8.pss_cut (ps_for PassesOwn.never rfl (pi_range1 rfl T.n_range (pa_cons pe_int pa_nil)) (pg_name (i := 7) sc_law.nd rfl (Or.inl rfl))
      (pss_cons (ps_set (i := 8) sc_law.nd rfl (Or.inl rfl) (pe_lst (pa_cons (pe_prop (pv 6) T.cl_Standing T.p_Standing_loads G_Standing_loads (hr.mono (by decide)) T.b_Standing_loads .nil pass0 rfl) (pa_cons (pe_prop (pv 6) T.cl_Standing T.p_Standing_times G_Standing_times (hr.mono (by decide)) T.b_Standing_times .nil pass0 rfl) pa_nil))))
    (pss_cons (ps_if (PW.pt (pw_or (pt_not (pt_val (pe_call G_agrees (hr.mono (by decide)) rfl T.m_agrees T.F_agrees.kp T.b_agrees .nil pass0 (pa_cons (pe_ix ix_list (pv 8) pe_int (fun _ _ => rfl)) (pa_cons (pv 2) pa_nil))))) (pw_or1 (pt_not (pt_val (pe_call G_agrees (hr.mono (by decide)) rfl T.m_agrees T.F_agrees.kp T.b_agrees .nil pass0 (pa_cons (pe_ix ix_list (pv 8) pe_int (fun _ _ => rfl)) (pa_cons (pv 3) pa_nil))))))))
      (pss_one (ps_ret pe_bl))
      pss_nil)
    (pss_cons (ps_asg (pe_make T.mk_Ratio G_Ratio_init (hr.mono (by decide)) rfl T.m_Ratio T.b1_Ratio_init T.v1_Ratio_init pass0 (pa_cons pe_int pa_nil)) (pg_sub (pe_ix ix_list (pv 8) pe_int (fun _ _ => rfl)) pe_str (set_dict (hu_of hr))))
    (pss_one (ps_expr (pe_dclear (pe_ix ix_list (pv 8) pe_int (fun _ _ => rfl)))))))))
    (pss_cons (ps_set (i := 9) sc_law.nd rfl (Or.inl rfl) (pe_make T.mk_Standing G_Standing_init (hr.mono (by decide)) rfl T.m_Standing T.b_Standing_init .nil pass0 (pa_cons (pe_call G_given (hr.mono (by decide)) rfl T.m_given T.F_given.kp T.b_given .nil pass0 (pa_cons (pv 1) (pa_cons (pv 2) pa_nil))) (pa_cons (pe_call G_given (hr.mono (by decide)) rfl T.m_given T.F_given.kp T.b_given .nil pass0 (pa_cons (pv 1) (pa_cons (pv 3) pa_nil))) pa_nil))))
    (pss_cons (ps_set (i := 10) sc_law.nd rfl (Or.inl rfl) (pe_lst (pa_cons (pe_make T.mk_Standing G_Standing_init (hr.mono (by decide)) rfl T.m_Standing T.b_Standing_init .nil pass0 (pa_cons (pe_call G_given (hr.mono (by decide)) rfl T.m_given T.F_given.kp T.b_given .nil pass0 (pa_cons (pv 1) (pa_cons (pe_call G_near (hr.mono (by decide)) rfl T.m_near T.F_near.kp T.b_near .nil pass0 (pa_cons (pv 1) (pa_cons (pv 2) pa_nil))) pa_nil))) (pa_cons (pe_call G_given (hr.mono (by decide)) rfl T.m_given T.F_given.kp T.b_given .nil pass0 (pa_cons (pv 1) (pa_cons (pv 3) pa_nil))) pa_nil))) pa_nil)))
    (pss_cons (ps_expr (pe_bm PySem.F.plainAttrs_list PySem.F.slot_list_append PySem.F.type_list_append mt_append (pv 10) (pa_cons (pe_make T.mk_Standing G_Standing_init (hr.mono (by decide)) rfl T.m_Standing T.b_Standing_init .nil pass0 (pa_cons (pe_call G_given (hr.mono (by decide)) rfl T.m_given T.F_given.kp T.b_given .nil pass0 (pa_cons (pv 1) (pa_cons (pv 2) pa_nil))) (pa_cons (pe_call G_given (hr.mono (by decide)) rfl T.m_given T.F_given.kp T.b_given .nil pass0 (pa_cons (pv 1) (pa_cons (pe_call G_near (hr.mono (by decide)) rfl T.m_near T.F_near.kp T.b_near .nil pass0 (pa_cons (pv 1) (pa_cons (pv 3) pa_nil))) pa_nil))) pa_nil))) pa_nil)))
    (C8.pss_cut (ps_if (pt_cmpR (op_neDD (room128 hr)) (pv 2) (pv 3) (nomark _))
      (pss_one (ps_expr (pe_bm PySem.F.plainAttrs_list PySem.F.slot_list_append PySem.F.type_list_append mt_append (pv 10) (pa_cons (pe_make T.mk_Standing G_Standing_init (hr.mono (by decide)) rfl T.m_Standing T.b_Standing_init .nil pass0 (pa_cons (pe_call G_given (hr.mono (by decide)) rfl T.m_given T.F_given.kp T.b_given .nil pass0 (pa_cons (pv 1) (pa_cons (pv 3) pa_nil))) (pa_cons (pe_call G_given (hr.mono (by decide)) rfl T.m_given T.F_given.kp T.b_given .nil pass0 (pa_cons (pv 1) (pa_cons (pv 2) pa_nil))) pa_nil))) pa_nil))))
      pss_nil)
    (C8.pss_cut (ps_for PassesOwn.never rfl (pi_list (pv 10)) (pg_name (i := 11) sc_law.nd rfl (Or.inl rfl))
      (pss_one (ps_if (PW.pt (pw_or (pt_cmpR (cmp_own T.a_Standing_eq T.i_Standing_eq G_Standing_eq (hr.mono (by decide)) T.b_Standing_eq pass0) (pv 6) (pv 11) (nomark _)) (pw_or (pt_cmpR (cmp_own T.a_Standing_eq T.i_Standing_eq G_Standing_eq (hr.mono (by decide)) T.b_Standing_eq pass0) (pv 11) (pv 6) (nomark _)) (pw_or1 (pt_not (pt_cmpR (ne_own T.none_Standing G_Standing_eq (hr.mono (by decide)) T.b_Standing_eq pass0) (pv 6) (pv 11) (nomark _)))))))
      (pss_one (ps_ret pe_bl))
      pss_nil)))
    (pss_one (ps_ret (pe_and (pe_cmpR (cmp_own T.a_Standing_eq T.i_Standing_eq G_Standing_eq (hr.mono (by decide)) T.b_Standing_eq pass0) (pv 6) (pv 9) (nomark _)) (pe_and (pe_cmpR (cmp_own T.a_Standing_eq T.i_Standing_eq G_Standing_eq (hr.mono (by decide)) T.b_Standing_eq pass0) (pv 9) (pv 6) (nomark _)) (pe_one (pe_cmpR (ne_ownI T.none_Standing T.sn_Standing_int GI_Standing_eq (hr.mono (by decide)) T.b_Standing_eq pass0) (pv 6) pe_int (nomark _)))))))))))))))))))))), ?_⟩
    refine ⟨_, rfl, S, ns, rfl, hS, hns, fun st H1 d1 => ?_⟩
    refine ⟨_, rfl, st, 0, H, rfl, d1, by decide, fun A1 es1 H2 G2 s2 n1 d2 t1 ok1 ne1 => ?_⟩
    refine ⟨_, rfl, st, _, G2, rfl, d2, by decide, fun A2 es2 H3 G3 s3 n2 d3 t2 ok2 ne2 => ?_⟩
    have t1 := t1.on s3
    refine ⟨_, rfl, _, rfl, st, A1, _, 11, G3, es1, rfl, d3, by decide, t1, by decide, ok1, fun D1 fs1 H4 G4 s4 n4 d4 g1 p1 => ?_⟩
    refine ⟨_, rfl, _, rfl, st, A2, _, 11, G4, es2, rfl, d4, by decide, t2.on s4, by decide, ok2, fun D2 fs2 H5 G5 s5 n5 d5 g2 p2 => ?_⟩
    have D12 : D1 ≠ D2 := fun z => by
      obtain ⟨ks, e, _⟩ := g1
      rw [z, n5] at e
      cases e
    have a11 := t1.at_ne n4
    have a21 := t2.at_ne n4
    have a12 := (t1.on s4).at_ne n5
    have a22 := (t2.on s4).at_ne n5
    have g1 := g1.on s5
    have s45 := s4.trans s5
    have t1 := t1.on s45
    have t2 := t2.on s45
    have hok1 := ok1.perm p1
    have hok2 := ok2.perm p2
    clear d1 d2 d3 d4 s2 s3 s4 s5 s45 n1 n2 n4 n5
    refine ⟨z2, fun L nL => ?_⟩
    have d6 := d5.new (o := .lst [.ref D1, .ref D2]) nL
    have s6 := same_upd (o := .lst [.ref D1, .ref D2]) (d5.free nL)
    have eL : (upd G5 L (.lst [.ref D1, .ref D2])) L = some (.lst [.ref D1, .ref D2]) := upd_same
    have g1 := g1.on s6
    have g2 := g2.on s6
    have t1 := t1.on s6
    have t2 := t2.on s6
    generalize upd G5 L (.lst [.ref D1, .ref D2]) = G6 at d6 eL g1 g2 t1 t2
    clear d5 s6 nL
    obtain ⟨ks1, e1, q1⟩ := id g1
    obtain ⟨ks2, e2, q2⟩ := id g2
    refine ⟨_, rfl, L, _, 0, _, rfl, rfl, SqL.of (d6.same _ _ eL), rfl, D1, ks1, rfl, .inl (d6.same _ _ e1), fun c1 nc1 => ?_⟩
    have d7 := d6.new (o := .dK ks1) nc1
    have f1 := d6.free nc1
    have s7 := same_upd (o := .dK ks1) f1
    have ec1 : (upd G6 c1 (.dK ks1)) c1 = some (.dK ks1) := upd_same
    generalize upd G6 c1 (.dK ks1) = G7 at d7 s7 ec1
    refine ⟨_, rfl, L, _, 1, _, rfl, rfl, SqL.of (d7.same _ _ (s7 _ _ eL)), rfl, D2, ks2, rfl, .inl (d7.same _ _ (s7 _ _ e2)), fun c2 nc2 => ?_⟩
    have d8 := d7.new (o := .dK ks2) nc2
    have f2 := d7.free nc2
    have s8 := s7.trans (same_upd (o := .dK ks2) f2)
    have ec2 : (upd G7 c2 (.dK ks2)) c2 = some (.dK ks2) := upd_same
    have ec1 := (same_upd (o := .dK ks2) f2) _ _ ec1
    generalize upd G7 c2 (.dK ks2) = G8 at d8 s8 ec1 ec2
    refine ⟨z2, fun L2 nL2 => ?_⟩
    have d9 := d8.new (o := .lst [.ref c1, .ref c2]) nL2
    have s9 := same_upd (o := .lst [.ref c1, .ref c2]) (d8.free nL2)
    have eL2 : (upd G8 L2 (.lst [.ref c1, .ref c2])) L2 = some (.lst [.ref c1, .ref c2]) := upd_same
    have ec1 := s9 _ _ ec1
    have ec2 := s9 _ _ ec2
    have s9 := s8.trans s9
    generalize upd G8 L2 (.lst [.ref c1, .ref c2]) = G9 at d9 s9 ec1 ec2 eL2
    have n1 : D1 ≠ c1 := fun z => by rw [z, f1] at e1; cases e1
    have n2 : D2 ≠ c2 := fun z => by rw [← z, s7 _ _ e2] at f2; cases f2
    have eL := s9 _ _ eL
    have g1 := g1.on s9
    have g2 := g2.on s9
    have t1 := t1.on s9
    have t2 := t2.on s9
    have e1 := s9 _ _ e1
    have e2 := s9 _ _ e2
    clear d6 d7 d8 s7 s8 f1 f2 nc1 nc2 nL2
    generalize upd (upd (upd (upd H5 L (.lst [.ref D1, .ref D2])) c1 (.dK ks1)) c2 (.dK ks2)) L2 (.lst [.ref c1, .ref c2]) = H9 at d9 ⊢
    refine ⟨_, rfl, L, _, 1, _, rfl, rfl, SqL.of (d9.same _ _ eL), rfl, _, rfl, L, _, 0, _, rfl, rfl, SqL.of (d9.same _ _ eL), rfl, rfl, rfl, fun p dp np ndp nep => ?_⟩
    refine stand_made np ndp (Ne.symm nep) (g1.on d9.same) (g2.on d9.same) D12 hok1 hok2 fun c d H10 s10 h10 fc fd => ⟨rfl, ?_⟩
    have cD1 : c ≠ D1 := fun z => by rw [z, d9.same _ _ e1] at fc; cases fc
    have cD2 : c ≠ D2 := fun z => by rw [z, d9.same _ _ e2] at fc; cases fc
    have dD1 : d ≠ D1 := fun z => by rw [z, d9.same _ _ e1] at fd; cases fd
    have dD2 : d ≠ D2 := fun z => by rw [z, d9.same _ _ e2] at fd; cases fd
    have sH := d9.same.trans s10
    refine ⟨_, rfl, _, rfl, L, L2, _, _, rfl, rfl, SqL.of (sH _ _ eL), SqL.of (sH _ _ eL2), .cons (same_dN (sH _ _ e1) (sH _ _ ec1) n1 ((g1.on sH).here (sH _ _ e1)) hok1.nd) (.cons (same_dN (sH _ _ e2) (sH _ _ ec2) n2 ((g2.on sH).here (sH _ _ e2)) hok2.nd) .nil), _, rfl, iteF ?_⟩
    obtain ⟨G10, d10, sg, nl10⟩ := d9.step s10
    have e1 := sg _ _ e1
    have e2 := sg _ _ e2
    have eL := sg _ _ eL
    have t1 := t1.on sg
    have t2 := t2.on sg
    have hk2 : ks2.length ≤ 6 := by rw [q2.length]; exact hok2.few
    have h10 := h10.nl nl10
    clear d9 s9 s10 sg nl10 sH fc fd ec1 ec2 eL2 n1 n2 q1 q2 g1 g2 np ndp nep
    -- what was passed is changed
    refine ⟨_, rfl, L, _, 0, _, rfl, rfl, SqL.of (d10.same _ _ eL), rfl, ?_⟩
    refine ⟨.inr (.inr (.inl ⟨rfl, .inl ⟨_, d10.same _ _ e1⟩⟩)), D1, _, rfl, rfl, d10.same _ _ e1, ?_⟩
    have d11 := d10.put (o := .dK []) e1
    have LD1 : L ≠ D1 := fun z => by rw [z, e1] at eL; cases eL
    have LD2 : L ≠ D2 := fun z => by rw [z, e2] at eL; cases eL
    have t1 := t1.dput (o := .dK []) e1 a11
    have t2 := t2.dput (o := .dK []) e1 a21
    have h10 := h10.dput (o := .dK []) e1 cD1 dD1
    have e2 : (upd G10 D1 (.dK [])) D2 = some (.dK ks2) := by rw [upd_ne (Ne.symm D12)]; exact e2
    have eL : (upd G10 D1 (.dK [])) L = some (.lst [.ref D1, .ref D2]) := by rw [upd_ne LD1]; exact eL
    generalize upd G10 D1 (.dK []) = G11 at d11 t1 t2 h10 e2 eL
    generalize upd H10 D1 (.dK []) = H11 at d11 ⊢
    refine ⟨_, rfl, L, _, 1, _, rfl, rfl, SqL.of (d11.same _ _ eL), rfl, D2, _, rfl, DPut.k (k := .inr "zzz9") (d11.same _ _ e2) (small1000 (by omega)), ?_⟩
    have d12 := d11.put (o := .dK (putK ks2 (.inr "zzz9") (.int 1))) e2
    have t1 := t1.dput (o := .dK (putK ks2 (.inr "zzz9") (.int 1))) e2 a12
    have t2 := t2.dput (o := .dK (putK ks2 (.inr "zzz9") (.int 1))) e2 a22
    have h12 := h10.dput (o := .dK (putK ks2 (.inr "zzz9") (.int 1))) e2 cD2 dD2
    clear h10 d10 d11 e1 e2 eL LD1 LD2 cD1 cD2 dD1 dD2
    generalize upd G11 D2 (.dK (putK ks2 (.inr "zzz9") (.int 1))) = G12 at d12 t1 t2 h12
    generalize upd H11 D2 (.dK (putK ks2 (.inr "zzz9") (.int 1))) = H12 at d12 ⊢
    clear a11 a12 a21 a22 D12 hk2
    -- what it tells
    dsimp only [List.set_cons_zero, List.set_cons_succ]
    refine ⟨fun σ H' => ∃ x7 x8 : Option V, σ = [some (.ref S), some (.ref st), some (.ref A1), some (.ref A2), some (.ref L), some (.ref L2), some (.ref p), x7, x8, none, none, none] ∧ Same H12 H', ?_, ?_⟩
    · refine ⟨2, rfl, by decide, by decide, ?_⟩
      refine for_range (lo := 0) (n := 2) (fun i σ H' => ∃ x7 x8 : Option V, σ = [some (.ref S), some (.ref st), some (.ref A1), some (.ref A2), some (.ref L), some (.ref L2), some (.ref p), x7, x8, none, none, none] ∧ Same H12 H') ⟨_, _, rfl, Same.refl _⟩ ?_ ?_
      · rintro i σ H4 hi ⟨x7, x8, rfl, s4⟩
        obtain ⟨⟨dx, ep⟩, _, _⟩ := id ((h12.on d12.same).on s4)
        refine ⟨_, rfl, p, dx, _, rfl, ep, p, c, d, fs1, fs2, 11, rfl, (h12.on d12.same).on s4, fun U1 H5 s5 nU1 u1 => ?_⟩
        have hs1 := ok1.perm p1
        have hs2 := ok2.perm p2
        have sA := (d12.same.trans s4).trans s5
        refine ⟨_, rfl, p, dx, _, rfl, s5 _ _ ep, p, c, d, fs1, fs2, 11, rfl, h12.on sA, fun U2 H6 s6 nU2 u2 => ?_⟩
        have uu := u1.at_ne nU2
        have fU1 : H12 U1 = none := s4.free nU1
        have fU2 : H12 U2 = none := (s4.trans s5).free nU2
        refine ⟨z2, fun Z nZ => ?_⟩
        have s7 := same_upd (o := .lst [V.ref U1, .ref U2]) nZ
        have eZ : (upd H6 Z (.lst [V.ref U1, .ref U2])) Z = some (.lst [V.ref U1, .ref U2]) := upd_same
        have u1 := (u1.on s6).on s7
        have u2 := u2.on s7
        have sH := ((s4.trans s5).trans s6).trans s7
        generalize upd H6 Z (.lst [V.ref U1, .ref U2]) = H7 at s7 eZ u1 u2 sH ⊢
        have v1 := (t1.on d12.same).on sH
        have v2 := (t2.on d12.same).on sH
        refine ⟨_, rfl, Z, _, 0, _, rfl, rfl, SqL.of eZ, rfl, _, rfl, U1, A1, 11, 11, es1, fs1, rfl, u1, v1, ok1, p1, fun H8 s8 => ⟨_, rfl, iteF ?_⟩⟩
        refine ⟨_, rfl, Z, _, 1, _, rfl, rfl, SqL.of (s8 _ _ eZ), rfl, _, rfl, U2, A2, 11, 11, es2, fs2, rfl, u2.on s8, v2.on s8, ok2, p2, fun H9 s9 => ⟨_, rfl, iteF ?_⟩⟩
        intro q dq nq ndq neq
        refine ⟨q, dq, 1, 1, rfl, upd_same, by decide, Nat.one_lt_two_pow (by decide), fun K1 rk st1 => ⟨rfl, ?_⟩⟩
        have sk := (s8.trans s9).trans (Same.made nq ndq st1)
        obtain ⟨k1, eU1, pk1⟩ := u1.on sk
        obtain ⟨k2, eU2, pk2⟩ := u2.on sk
        have eZ := sk _ _ eZ
        have zU1 : Z ≠ U1 := fun z => by rw [z, eU1] at eZ; cases eZ
        have f6 := hs1.few
        refine ⟨_, rfl, Z, _, 0, _, rfl, rfl, SqL.of eZ, rfl, U1, _, rfl, DPut.k (k := .inr "zzz9") eU1 (small1000 (by rw [pk1.length]; omega)), ?_⟩
        have e2' : (upd K1 U1 (.dK (putK k1 (.inr "zzz9") (.ref q)))) U2 = some (.dK k2) := by rw [upd_ne (Ne.symm uu)]; exact eU2
        refine ⟨_, rfl, Z, _, 1, _, rfl, rfl, SqL.of (by rw [upd_ne zU1]; exact eZ), rfl, ?_⟩
        exact ⟨.inr (.inr (.inl ⟨rfl, .inl ⟨_, e2'⟩⟩)), U2, _, rfl, rfl, e2', _, _, rfl, same_mut (same_mut (sH.trans sk) fU1) fU2⟩
      · rintro σ H4 ⟨x7, x8, rfl, s4⟩
        exact ⟨x7, x8, rfl, s4⟩
    rintro σ H13 ⟨x7, x8, rfl, s13⟩
    -- the same standing
    refine ⟨_, rfl, _, rfl, st, A1, _, 11, G12, es1, rfl, d12.on s13, by decide, t1, by decide, ok1, fun B1 gs1 I1 J1 s1 n1 d1 g1 pg1 => ?_⟩
    refine ⟨_, rfl, _, rfl, st, A2, _, 11, J1, es2, rfl, d1, by decide, t2.on s1, by decide, ok2, fun B2 gs2 I2 J2 s2 n2 d2 g2 pg2 => ?_⟩
    intro q dq nq ndq neq
    refine stand_made nq ndq (Ne.symm neq) ((g1.on s2).on d2.same) (g2.on d2.same) (g1.at_ne n2) (ok1.perm pg1) (ok2.perm pg2) fun c' d' I3 s3 hS fc fd => ⟨rfl, ?_⟩
    obtain ⟨J3, d3, sg, nl⟩ := d2.step s3
    have s12 := s1.trans s2
    have cc := ((h12.2.1.on s12).on d2.same).at_ne fc
    have dd := ((h12.2.2.on s12).on d2.same).at_ne fd
    have hS := hS.nl nl
    have s123 := s12.trans sg
    have hH := h12.on s123
    have t1 := t1.on s123
    have t2 := t2.on s123
    clear d12 h12 s12 s123 s1 s2 s3 n1 n2 d1 d2 g1 g2 nq ndq neq fc fd sg nl s13
    -- another one
    dsimp only [List.set_cons_zero, List.set_cons_succ]
    refine ⟨_, rfl, _, rfl, _, rfl, st, A1, _, J3, es1, rfl, d3, by decide, t1, ok1, ne1, fun N1 ns1 I1 J1 s1 n1 d1 tn okn m1 m2 => ?_⟩
    refine ⟨st, N1, _, 16, J1, ns1, rfl, d1, by decide, tn, by decide, okn, fun B1 ks1 I2 J2 s2 n2 d2 g1 pk1 => ?_⟩
    refine ⟨_, rfl, _, rfl, st, A2, _, 11, J2, es2, rfl, d2, by decide, (t2.on s1).on s2, by decide, ok2, fun B2 ks2 I4 J4 s4 n4 d4 g2 pk2 => ?_⟩
    intro q1 dq nq ndq neq
    refine stand_made nq ndq (Ne.symm neq) ((g1.on s4).on d4.same) ((g2.mono (by decide)).on d4.same) (g1.at_ne n4) (okn.perm pk1) (ok2.perm pk2) fun c1 dd1 I5 s5 h1 fc fd => ⟨rfl, ?_⟩
    obtain ⟨J5, d5, sg, nl⟩ := d4.step s5
    have s14 := (s1.trans s2).trans s4
    have cc1 := ((hH.2.1.on s14).on d4.same).at_ne fc
    have dc1 := ((hH.2.2.on s14).on d4.same).at_ne fd
    have s145 := s14.trans sg
    have hS := hS.on s145
    have hH := hH.on s145
    have t1 := t1.on s145
    have t2 := t2.on s145
    have o1 : Diff T.f_Standing T.f_Ratio J5 c d fs1 fs2 q1 := by
      refine ⟨c1, dd1, ks1, ks2, h1.nl nl, cc1, dc1, ?_, ?_⟩
      · rw [mEq_perm p1 pk1 (okn.perm pk1).nd, m1, Bool.false_and]
      · rw [mEq_perm pk1 p1 hok1.nd, m2, Bool.false_and]
    clear d3 d4 s14 s145 s1 s2 s4 s5 n1 n2 n4 d1 d2 g1 g2 nq ndq neq fc fd sg nl tn h1 cc1 dc1
    refine ⟨z1, fun M nM => ?_⟩
    have d6 := d5.new (o := .lst [.ref q1]) nM
    have s6 := same_upd (o := .lst [.ref q1]) (d5.free nM)
    have eM : (upd J5 M (.lst [.ref q1])) M = some (.lst [.ref q1]) := upd_same
    have hS := hS.on s6
    have hH := hH.on s6
    have t1 := t1.on s6
    have t2 := t2.on s6
    have o1 := o1.nl (nl_same s6)
    generalize upd J5 M (.lst [.ref q1]) = J6 at d6 eM hS hH t1 t2 o1
    clear s6 d5 nM
    refine ⟨_, rfl, .inl ⟨rfl, _, SqL.of (d6.same _ _ eM)⟩, ?_⟩
    refine ⟨_, rfl, _, rfl, st, A1, _, 11, J6, es1, rfl, d6, by decide, t1, by decide, ok1, fun B1 hs1 I1 J1 s1 n1 d1 g1 pj1 => ?_⟩
    refine ⟨_, rfl, _, rfl, _, rfl, st, A2, _, J1, es2, rfl, d1, by decide, t2.on s1, ok2, ne2, fun N2 ns2 I2 J2 s2 n2 d2 tn okn2 m3 m4 => ?_⟩
    refine ⟨st, N2, _, 16, J2, ns2, rfl, d2, by decide, tn, by decide, okn2, fun B2 hs2 I4 J4 s4 n4 d4 g2 pj2 => ?_⟩
    intro q2 dq nq ndq neq
    refine stand_made nq ndq (Ne.symm neq) ((((g1.mono (by decide)).on s2).on s4).on d4.same) (g2.on d4.same) ((g1.on s2).at_ne n4) (ok1.perm pj1) (okn2.perm pj2) fun c2 dd2 I5 s5 h1 fc fd => ⟨rfl, ?_⟩
    obtain ⟨J5, d5, sg, nl⟩ := d4.step s5
    have s14 := (s1.trans s2).trans s4
    have cc1 := ((hH.2.1.on s14).on d4.same).at_ne fc
    have dc1 := ((hH.2.2.on s14).on d4.same).at_ne fd
    have s145 := s14.trans sg
    have hS := hS.on s145
    have hH := hH.on s145
    have t1 := t1.on s145
    have t2 := t2.on s145
    have o1 := o1.nl (nl_same s145)
    have eM := s145 _ _ eM
    have o2 : Diff T.f_Standing T.f_Ratio J5 c d fs1 fs2 q2 := by
      refine ⟨c2, dd2, hs1, hs2, h1.nl nl, cc1, dc1, ?_, ?_⟩
      · rw [mEq_perm p2 pj2 (okn2.perm pj2).nd, m3, Bool.and_false]
      · rw [mEq_perm pj2 p2 hok2.nd, m4, Bool.and_false]
    clear d4 s14 s145 s1 s2 s4 s5 n1 n2 n4 d1 d2 g1 g2 nq ndq neq fc fd sg nl tn h1 cc1 dc1 d6
    refine ⟨M, _, _, rfl, rfl, d5.same _ _ eM, small1000 (by show 1 ≤ 1000; decide), ?_⟩
    obtain ⟨J6, d6, nl, eM, _⟩ := d5.lput (ys := [V.ref q1, .ref q2]) eM
    have hS := hS.nl nl
    have hH := hH.nl nl
    have t1 := t1.nl nl
    have t2 := t2.nl nl
    have o1 := o1.nl nl
    have o2 := o2.nl nl
    clear nl d5
    dsimp only [List.set_cons_zero, List.set_cons_succ]
    refine ⟨fun σ H' => ∃ (G' : Hp) (os : List Addr), σ = [some (.ref S), some (.ref st), some (.ref A1), some (.ref A2), some (.ref L), some (.ref L2), some (.ref p), x7, x8, some (.ref q), some (.ref M), none] ∧ Same G' H' ∧ G' M = some (.lst (os.map V.ref)) ∧ (∀ o ∈ os, Diff T.f_Standing T.f_Ratio G' c d fs1 fs2 o) ∧ StandAt T.f_Standing T.f_Ratio G' p c d fs1 fs2 11 ∧ StandAt T.f_Standing T.f_Ratio G' q c' d' gs1 gs2 11, ?_, ?_⟩
    · refine ⟨_, rfl, _, rfl, dict_neD (t1.on d6.same) (t2.on d6.same) ⟨_, rfl, ite2 (fun hd => ?_) fun hd => ?_⟩⟩
      · have hd : mEq es1 es2 = false := by
          cases h : mEq es1 es2 with
          | false => rfl
          | true => rw [h] at hd; cases hd
        refine ⟨_, rfl, .inl ⟨rfl, _, SqL.of (d6.same _ _ eM)⟩, ?_⟩
        refine ⟨_, rfl, _, rfl, st, A2, _, 11, J6, es2, rfl, d6, by decide, t2, by decide, ok2, fun B1 us1 I1 J1 s1 n1 d1 g1 pj1 => ?_⟩
        refine ⟨_, rfl, _, rfl, st, A1, _, 11, J1, es1, rfl, d1, by decide, t1.on s1, by decide, ok1, fun B2 us2 I2 J2 s2 n2 d2 g2 pj2 => ?_⟩
        intro q3 dq nq ndq neq
        refine stand_made nq ndq (Ne.symm neq) (((g1.mono (m := 16) (by decide)).on s2).on d2.same) ((g2.mono (m := 16) (by decide)).on d2.same) (g1.at_ne n2) (ok2.perm pj1) (ok1.perm pj2) fun c3 dd3 I5 s5 h1 fc fd => ⟨rfl, ?_⟩
        obtain ⟨J5, d5, sg, nl⟩ := d2.step s5
        have s12 := s1.trans s2
        have cc1 := ((hH.2.1.on s12).on d2.same).at_ne fc
        have dc1 := ((hH.2.2.on s12).on d2.same).at_ne fd
        have s3 := s12.trans sg
        have hS := hS.on s3
        have hH := hH.on s3
        have o1 := o1.nl (nl_same s3)
        have o2 := o2.nl (nl_same s3)
        have eM := s3 _ _ eM
        have o3 : Diff T.f_Standing T.f_Ratio J5 c d fs1 fs2 q3 := by
          refine ⟨c3, dd3, us1, us2, h1.nl nl, cc1, dc1, ?_, ?_⟩
          · rw [mEq_perm p1 pj1 (ok2.perm pj1).nd, hd, Bool.false_and]
          · rw [mEq_perm pj2 p2 hok2.nd, hd, Bool.and_false]
        refine ⟨M, _, _, rfl, rfl, d5.same _ _ eM, small1000 (by show 2 ≤ 1000; decide), ?_⟩
        obtain ⟨J7, d7, nl7, eM7, _⟩ := d5.lput (ys := [V.ref q1, .ref q2, .ref q3]) eM
        refine ⟨J7, [q1, q2, q3], rfl, d7.same, eM7, fun o ho => ?_, hH.nl nl7, hS.nl nl7⟩
        rcases List.mem_cons.mp ho with rfl | ho
        · exact o1.nl nl7
        rcases List.mem_cons.mp ho with rfl | ho
        · exact o2.nl nl7
        rw [List.mem_singleton.mp ho]
        exact o3.nl nl7
      · refine ⟨J6, [q1, q2], rfl, d6.same, eM, fun o ho => ?_, hH, hS⟩
        rcases List.mem_cons.mp ho with rfl | ho
        · exact o1
        rw [List.mem_singleton.mp ho]
        exact o2
    rintro σ H5 ⟨G5, os, rfl, s5, eM5, hos, hH5, hS5⟩
    clear d6 t1 t2 hH hS o1 o2 eM
    have hH := hH5.on s5
    have hS := hS5.on s5
    have eM := s5 _ _ eM5
    have hos : ∀ o ∈ os, Diff T.f_Standing T.f_Ratio H5 c d fs1 fs2 o := fun o ho => (hos o ho).nl (nl_same s5)
    clear s5 eM5 hH5 hS5
    obtain ⟨⟨dx, ep⟩, _, _⟩ := id hH
    refine ⟨fun σ H' => ∃ x11, σ = [some (.ref S), some (.ref st), some (.ref A1), some (.ref A2), some (.ref L), some (.ref L2), some (.ref p), x7, x8, some (.ref q), some (.ref M), x11] ∧ H' = H5, ?_, ?_⟩
    · refine ⟨_, rfl, M, rfl, ⟨_, SqL.of eM⟩, ?_⟩
      refine for_list (K := K) (a := M) (xs := os.map V.ref) (fun i σ H' => ∃ x11, σ = [some (.ref S), some (.ref st), some (.ref A1), some (.ref A2), some (.ref L), some (.ref L2), some (.ref p), x7, x8, some (.ref q), some (.ref M), x11] ∧ H' = H5) ⟨_, rfl, rfl⟩ (fun i σ H' _ ⟨_, _, e⟩ => by rw [e]; exact SqL.of eM) ?_ ?_
      · rintro i x σ H6 hi ⟨x11, rfl, rfl⟩
        rw [List.getElem?_map] at hi
        cases ho : os[i]? with
        | none => rw [ho] at hi; cases hi
        | some o =>
          rw [ho] at hi
          obtain rfl := Option.some.inj hi
          obtain ⟨a, b, es, fs, t, na, nb, m1, m2⟩ := hos o (List.mem_of_getElem? ho)
          obtain ⟨⟨dy, eo⟩, _, _⟩ := id t
          refine ⟨_, rfl, _, rfl, p, dx, _, o, dy, _, rfl, rfl, ep, eo, p, c, d, o, a, b, fs1, fs2, es, fs, 11, 16, rfl, hH, t, na, nb, ?_⟩
          rw [m1]
          refine ⟨_, rfl, iteF ⟨_, rfl, _, rfl, o, dy, _, p, dx, _, rfl, rfl, eo, ep, o, a, b, p, c, d, es, fs, fs1, fs2, 16, 11, rfl, t, hH, na.symm, nb.symm, ?_⟩⟩
          rw [m2]
          refine ⟨_, rfl, iteF ⟨_, rfl, _, rfl, p, dx, _, o, dy, _, rfl, rfl, ep, eo, p, c, d, o, a, b, fs1, fs2, es, fs, 11, 16, rfl, hH, t, na, nb, ?_⟩⟩
          rw [m1]
          exact ⟨_, rfl, _, rfl, iteF ⟨_, rfl, rfl⟩⟩
      · rintro σ H6 ⟨x11, rfl, rfl⟩
        exact ⟨x11, rfl, rfl⟩
    rintro σ H6 ⟨x11, rfl, rfl⟩
    obtain ⟨⟨dy, eq⟩, _, _⟩ := id hS
    have k1 : mEq fs1 gs1 = true := (mEq_perm p1 pg1 (ok1.perm pg1).nd).trans (mEq_self ok1.nd)
    have k2 : mEq fs2 gs2 = true := (mEq_perm p2 pg2 (ok2.perm pg2).nd).trans (mEq_self ok2.nd)
    have k3 : mEq gs1 fs1 = true := (mEq_perm pg1 p1 hok1.nd).trans (mEq_self ok1.nd)
    have k4 : mEq gs2 fs2 = true := (mEq_perm pg2 p2 hok2.nd).trans (mEq_self ok2.nd)
    refine ⟨_, rfl, _, rfl, p, dx, _, q, dy, _, rfl, rfl, ep, eq, p, c, d, q, c', d', fs1, fs2, gs1, gs2, 11, 11, rfl, hH, hS, cc, dd, ?_⟩
    rw [k1, k2]
    refine ⟨_, rfl, iteT ⟨_, rfl, _, rfl, q, dy, _, p, dx, _, rfl, rfl, eq, ep, q, c', d', p, c, d, gs1, gs2, fs1, fs2, 11, 11, rfl, hS, hH, cc.symm, dd.symm, ?_⟩⟩
    rw [k3, k4]
    exact ⟨_, rfl, iteT ⟨_, rfl, p, dx, _, 0, rfl, rfl, ep, p, 0, rfl, _, rfl, k _⟩⟩
end

set_option maxHeartbeats 0 in
theorem all_mk {l : PySem.W.OpenLaw} {w : World} {K : PySem.W.Frag} {h : Heap} {mg : Str → Option Value} {f_OutOfRange f_Ratio f_Standing f_as_ratio f_start f_draw f_low f_plus f_is f_value f_names f_table f_given f_agrees f_near f_OutOfRange_init f_Ratio_init dT_Ratio_init f_Ratio_top p_Ratio_top f_Ratio_bottom p_Ratio_bottom f_Ratio_eq f_Standing_init f_Standing_loads p_Standing_loads f_Standing_times p_Standing_times f_Standing_eq fa f_law : Addr} {od_as_ratio an_as_ratio od_start an_start od_draw an_draw od_low an_low od_plus an_plus od_is an_is od_value an_value od_names an_names od_table an_table od_given an_given od_agrees an_agrees od_near an_near od_OutOfRange_init an_OutOfRange_init od_Ratio_init an_Ratio_init dd0_Ratio_init od_Ratio_top an_Ratio_top od_Ratio_bottom an_Ratio_bottom od_Ratio_eq an_Ratio_eq od_Standing_init an_Standing_init od_Standing_loads an_Standing_loads od_Standing_times an_Standing_times od_Standing_eq an_Standing_eq od_law an_law : Option Addr} {sl_as_ratio sl_start sl_draw sl_low sl_plus sl_is sl_value sl_names sl_table sl_given sl_agrees sl_near sl_OutOfRange_init sl_Ratio_init ds_Ratio_init sl_Ratio_top sl_Ratio_bottom sl_Ratio_eq sl_Standing_init sl_Standing_loads sl_Standing_times sl_Standing_eq sl_law : Array (Option Value)} {oc_as_ratio kV_as_ratio dc_as_ratio pm_as_ratio cd_as_ratio ct_as_ratio oc_start kV_start dc_start pm_start cd_start ct_start oc_draw kV_draw dc_draw pm_draw cd_draw ct_draw oc_low kV_low dc_low pm_low cd_low ct_low oc_plus kV_plus dc_plus pm_plus cd_plus ct_plus oc_is kV_is dc_is pm_is cd_is ct_is oc_value kV_value dc_value pm_value cd_value ct_value oc_names kV_names dc_names pm_names cd_names ct_names oc_table kV_table dc_table pm_table cd_table ct_table oc_given kV_given dc_given pm_given cd_given ct_given oc_agrees kV_agrees dc_agrees pm_agrees cd_agrees ct_agrees oc_near kV_near dc_near pm_near cd_near ct_near oc_OutOfRange_init kV_OutOfRange_init dc_OutOfRange_init pm_OutOfRange_init cd_OutOfRange_init ct_OutOfRange_init oc_Ratio_init kV_Ratio_init dc_Ratio_init pm_Ratio_init cd_Ratio_init ct_Ratio_init dc0_Ratio_init oc_Ratio_top kV_Ratio_top dc_Ratio_top pm_Ratio_top cd_Ratio_top ct_Ratio_top oc_Ratio_bottom kV_Ratio_bottom dc_Ratio_bottom pm_Ratio_bottom cd_Ratio_bottom ct_Ratio_bottom oc_Ratio_eq kV_Ratio_eq dc_Ratio_eq pm_Ratio_eq cd_Ratio_eq ct_Ratio_eq oc_Standing_init kV_Standing_init dc_Standing_init pm_Standing_init cd_Standing_init ct_Standing_init oc_Standing_loads kV_Standing_loads dc_Standing_loads pm_Standing_loads cd_Standing_loads ct_Standing_loads oc_Standing_times kV_Standing_times dc_Standing_times pm_Standing_times cd_Standing_times ct_Standing_times oc_Standing_eq kV_Standing_eq dc_Standing_eq pm_Standing_eq cd_Standing_eq ct_Standing_eq oc_law kV_law dc_law pm_law cd_law ct_law : Value} {dt_Ratio_init : Tok} {dn_Ratio_init : Nat} {rs_Ratio_top rs_Ratio_bottom rs_Standing_loads rs_Standing_times : List Value} (X : K.In h) (G : h.Ns mainGlobals mg) (hfa : mg "law" = some (.ref fa))
    (a_OutOfRange : PySem.W.nsIn K mainGlobals "OutOfRange" = some (some (.ref f_OutOfRange)))
    (a_Ratio : PySem.W.nsIn K mainGlobals "Ratio" = some (some (.ref f_Ratio)))
    (pg_Ratio : PySem.W.plainGet K f_Ratio Str.empty = true)
    (hd_Ratio : PySem.W.hasDictIn K f_Ratio = true)
    (po_Ratio : PySem.W.plainOver K f_Ratio = true)
    (sa_Ratio : PySem.W.findIn K (.ref f_Ratio) "__setattr__" = some (some (.builtin "object.__setattr__")))
    (mk_Ratio : PySem.W.makesIn K f_Ratio = true)
    (kc_Ratio : PySem.W.keepIn K (.ref f_Ratio) = true)
    (hc_Ratio : PySem.W.findIn K (.ref f_Ratio) "__class__" = some (some (.builtin "object.__class__")))
    (mo_Ratio : PySem.W.mroIn K f_Ratio (.type "object") = some true)
    (ic_Ratio : PySem.W.isClsIn K f_Ratio = true)
    (ty_Ratio : PySem.W.typeIn K (.ref f_Ratio) = some (.type "type"))
    (hn_class : PySem.W.specialIn K (.builtin "object.__class__") "__get__" = some (some (.builtin "getset_descriptor.__get__")))
    (ht_class : PySem.W.takesIn K (.builtin "object.__class__") = some true)
    (na_Ratio_top : PySem.W.findIn K (.ref f_Ratio) "_top" = some none)
    (na_Ratio_bottom : PySem.W.findIn K (.ref f_Ratio) "_bottom" = some none)
    (su_Ratio_int : PySem.W.subIn K (.type "int") (.ref f_Ratio) = some false)
    (a_Standing : PySem.W.nsIn K mainGlobals "Standing" = some (some (.ref f_Standing)))
    (pg_Standing : PySem.W.plainGet K f_Standing Str.empty = true)
    (hd_Standing : PySem.W.hasDictIn K f_Standing = true)
    (po_Standing : PySem.W.plainOver K f_Standing = true)
    (sa_Standing : PySem.W.findIn K (.ref f_Standing) "__setattr__" = some (some (.builtin "object.__setattr__")))
    (mk_Standing : PySem.W.makesIn K f_Standing = true)
    (kc_Standing : PySem.W.keepIn K (.ref f_Standing) = true)
    (hc_Standing : PySem.W.findIn K (.ref f_Standing) "__class__" = some (some (.builtin "object.__class__")))
    (mo_Standing : PySem.W.mroIn K f_Standing (.type "object") = some true)
    (ic_Standing : PySem.W.isClsIn K f_Standing = true)
    (ty_Standing : PySem.W.typeIn K (.ref f_Standing) = some (.type "type"))
    (na_Standing_loads : PySem.W.findIn K (.ref f_Standing) "_loads" = some none)
    (na_Standing_times : PySem.W.findIn K (.ref f_Standing) "_times" = some none)
    (su_Standing_int : PySem.W.subIn K (.type "int") (.ref f_Standing) = some false)
    (a_as_ratio : PySem.W.nsIn K mainGlobals "as_ratio" = some (some (.ref f_as_ratio)))
    (l_as_ratio : K.lookup f_as_ratio = some ⟨oc_as_ratio, od_as_ratio, .func (PySem.W.fnOf "as_ratio" "as_ratio" (defArgs s_as_ratio) (defBody s_as_ratio) (defScope s_as_ratio) .none kV_as_ratio dc_as_ratio pm_as_ratio an_as_ratio cd_as_ratio ct_as_ratio), sl_as_ratio⟩)
    (c_as_ratio : PySem.W.codeIn K cd_as_ratio "as_ratio" = true)
    (k_as_ratio : PySem.W.keepIn K (.ref f_as_ratio) = true)
    (a_start : PySem.W.nsIn K mainGlobals "_law_start" = some (some (.ref f_start)))
    (l_start : K.lookup f_start = some ⟨oc_start, od_start, .func (PySem.W.fnOf "_law_start" "_law_start" (defArgs s_start) (defBody s_start) (defScope s_start) .none kV_start dc_start pm_start an_start cd_start ct_start), sl_start⟩)
    (c_start : PySem.W.codeIn K cd_start "_law_start" = true)
    (k_start : PySem.W.keepIn K (.ref f_start) = true)
    (a_draw : PySem.W.nsIn K mainGlobals "_law_draw" = some (some (.ref f_draw)))
    (l_draw : K.lookup f_draw = some ⟨oc_draw, od_draw, .func (PySem.W.fnOf "_law_draw" "_law_draw" (defArgs s_draw) (defBody s_draw) (defScope s_draw) .none kV_draw dc_draw pm_draw an_draw cd_draw ct_draw), sl_draw⟩)
    (c_draw : PySem.W.codeIn K cd_draw "_law_draw" = true)
    (k_draw : PySem.W.keepIn K (.ref f_draw) = true)
    (a_low : PySem.W.nsIn K mainGlobals "_law_low" = some (some (.ref f_low)))
    (l_low : K.lookup f_low = some ⟨oc_low, od_low, .func (PySem.W.fnOf "_law_low" "_law_low" (defArgs s_low) (defBody s_low) (defScope s_low) .none kV_low dc_low pm_low an_low cd_low ct_low), sl_low⟩)
    (c_low : PySem.W.codeIn K cd_low "_law_low" = true)
    (k_low : PySem.W.keepIn K (.ref f_low) = true)
    (a_plus : PySem.W.nsIn K mainGlobals "_law_plus" = some (some (.ref f_plus)))
    (l_plus : K.lookup f_plus = some ⟨oc_plus, od_plus, .func (PySem.W.fnOf "_law_plus" "_law_plus" (defArgs s_plus) (defBody s_plus) (defScope s_plus) .none kV_plus dc_plus pm_plus an_plus cd_plus ct_plus), sl_plus⟩)
    (c_plus : PySem.W.codeIn K cd_plus "_law_plus" = true)
    (k_plus : PySem.W.keepIn K (.ref f_plus) = true)
    (a_is : PySem.W.nsIn K mainGlobals "_law_is" = some (some (.ref f_is)))
    (l_is : K.lookup f_is = some ⟨oc_is, od_is, .func (PySem.W.fnOf "_law_is" "_law_is" (defArgs s_is) (defBody s_is) (defScope s_is) .none kV_is dc_is pm_is an_is cd_is ct_is), sl_is⟩)
    (c_is : PySem.W.codeIn K cd_is "_law_is" = true)
    (k_is : PySem.W.keepIn K (.ref f_is) = true)
    (a_value : PySem.W.nsIn K mainGlobals "_law_value" = some (some (.ref f_value)))
    (l_value : K.lookup f_value = some ⟨oc_value, od_value, .func (PySem.W.fnOf "_law_value" "_law_value" (defArgs s_value) (defBody s_value) (defScope s_value) .none kV_value dc_value pm_value an_value cd_value ct_value), sl_value⟩)
    (c_value : PySem.W.codeIn K cd_value "_law_value" = true)
    (k_value : PySem.W.keepIn K (.ref f_value) = true)
    (a_names : PySem.W.nsIn K mainGlobals "_law_names" = some (some (.ref f_names)))
    (l_names : K.lookup f_names = some ⟨oc_names, od_names, .func (PySem.W.fnOf "_law_names" "_law_names" (defArgs s_names) (defBody s_names) (defScope s_names) .none kV_names dc_names pm_names an_names cd_names ct_names), sl_names⟩)
    (c_names : PySem.W.codeIn K cd_names "_law_names" = true)
    (k_names : PySem.W.keepIn K (.ref f_names) = true)
    (a_table : PySem.W.nsIn K mainGlobals "_law_table" = some (some (.ref f_table)))
    (l_table : K.lookup f_table = some ⟨oc_table, od_table, .func (PySem.W.fnOf "_law_table" "_law_table" (defArgs s_table) (defBody s_table) (defScope s_table) .none kV_table dc_table pm_table an_table cd_table ct_table), sl_table⟩)
    (c_table : PySem.W.codeIn K cd_table "_law_table" = true)
    (k_table : PySem.W.keepIn K (.ref f_table) = true)
    (a_given : PySem.W.nsIn K mainGlobals "_law_given" = some (some (.ref f_given)))
    (l_given : K.lookup f_given = some ⟨oc_given, od_given, .func (PySem.W.fnOf "_law_given" "_law_given" (defArgs s_given) (defBody s_given) (defScope s_given) .none kV_given dc_given pm_given an_given cd_given ct_given), sl_given⟩)
    (c_given : PySem.W.codeIn K cd_given "_law_given" = true)
    (k_given : PySem.W.keepIn K (.ref f_given) = true)
    (a_agrees : PySem.W.nsIn K mainGlobals "_law_agrees" = some (some (.ref f_agrees)))
    (l_agrees : K.lookup f_agrees = some ⟨oc_agrees, od_agrees, .func (PySem.W.fnOf "_law_agrees" "_law_agrees" (defArgs s_agrees) (defBody s_agrees) (defScope s_agrees) .none kV_agrees dc_agrees pm_agrees an_agrees cd_agrees ct_agrees), sl_agrees⟩)
    (c_agrees : PySem.W.codeIn K cd_agrees "_law_agrees" = true)
    (k_agrees : PySem.W.keepIn K (.ref f_agrees) = true)
    (a_near : PySem.W.nsIn K mainGlobals "_law_near" = some (some (.ref f_near)))
    (l_near : K.lookup f_near = some ⟨oc_near, od_near, .func (PySem.W.fnOf "_law_near" "_law_near" (defArgs s_near) (defBody s_near) (defScope s_near) .none kV_near dc_near pm_near an_near cd_near ct_near), sl_near⟩)
    (c_near : PySem.W.codeIn K cd_near "_law_near" = true)
    (k_near : PySem.W.keepIn K (.ref f_near) = true)
    (a_OutOfRange_init : PySem.W.findIn K (.ref f_OutOfRange) "__init__" = some (some (.ref f_OutOfRange_init)))
    (i_OutOfRange_init : PySem.W.isFn K (.ref f_OutOfRange_init) = true)
    (l_OutOfRange_init : K.lookup f_OutOfRange_init = some ⟨oc_OutOfRange_init, od_OutOfRange_init, .func (PySem.W.fnOf "__init__" "OutOfRange.__init__" (defArgs s_OutOfRange_init) (defBody s_OutOfRange_init) (defScope s_OutOfRange_init) .none kV_OutOfRange_init dc_OutOfRange_init pm_OutOfRange_init an_OutOfRange_init cd_OutOfRange_init ct_OutOfRange_init), sl_OutOfRange_init⟩)
    (c_OutOfRange_init : PySem.W.codeIn K cd_OutOfRange_init "OutOfRange.__init__" = true)
    (k_OutOfRange_init : PySem.W.keepIn K (.ref f_OutOfRange_init) = true)
    (a_Ratio_init : PySem.W.findIn K (.ref f_Ratio) "__init__" = some (some (.ref f_Ratio_init)))
    (i_Ratio_init : PySem.W.isFn K (.ref f_Ratio_init) = true)
    (l_Ratio_init : K.lookup f_Ratio_init = some ⟨oc_Ratio_init, od_Ratio_init, .func (PySem.W.fnOf "__init__" "Ratio.__init__" (defArgs s_Ratio_init) (defBody s_Ratio_init) (defScope s_Ratio_init) (.ref dT_Ratio_init) kV_Ratio_init dc_Ratio_init pm_Ratio_init an_Ratio_init cd_Ratio_init ct_Ratio_init), sl_Ratio_init⟩)
    (c_Ratio_init : PySem.W.codeIn K cd_Ratio_init "Ratio.__init__" = true)
    (k_Ratio_init : PySem.W.keepIn K (.ref f_Ratio_init) = true)
    (t_Ratio_init : K.lookup dT_Ratio_init = some ⟨dc0_Ratio_init, dd0_Ratio_init, .seq #[.int 1 dt_Ratio_init] dn_Ratio_init, ds_Ratio_init⟩)
    (a_Ratio_top : PySem.W.findIn K (.ref f_Ratio) "top" = some (some (.ref p_Ratio_top)))
    (pg_Ratio_top : PySem.W.specialIn K (.ref p_Ratio_top) "__get__" = some (some (.builtin "property.__get__")))
    (pt_Ratio_top : PySem.W.takesIn K (.ref p_Ratio_top) = some true)
    (pr_Ratio_top : PySem.W.recIn K p_Ratio_top "property" = some (.ref f_Ratio_top :: rs_Ratio_top))
    (l_Ratio_top : K.lookup f_Ratio_top = some ⟨oc_Ratio_top, od_Ratio_top, .func (PySem.W.fnOf "top" "Ratio.top" (defArgs s_Ratio_top) (defBody s_Ratio_top) (defScope s_Ratio_top) .none kV_Ratio_top dc_Ratio_top pm_Ratio_top an_Ratio_top cd_Ratio_top ct_Ratio_top), sl_Ratio_top⟩)
    (c_Ratio_top : PySem.W.codeIn K cd_Ratio_top "Ratio.top" = true)
    (k_Ratio_top : PySem.W.keepIn K (.ref f_Ratio_top) = true)
    (a_Ratio_bottom : PySem.W.findIn K (.ref f_Ratio) "bottom" = some (some (.ref p_Ratio_bottom)))
    (pg_Ratio_bottom : PySem.W.specialIn K (.ref p_Ratio_bottom) "__get__" = some (some (.builtin "property.__get__")))
    (pt_Ratio_bottom : PySem.W.takesIn K (.ref p_Ratio_bottom) = some true)
    (pr_Ratio_bottom : PySem.W.recIn K p_Ratio_bottom "property" = some (.ref f_Ratio_bottom :: rs_Ratio_bottom))
    (l_Ratio_bottom : K.lookup f_Ratio_bottom = some ⟨oc_Ratio_bottom, od_Ratio_bottom, .func (PySem.W.fnOf "bottom" "Ratio.bottom" (defArgs s_Ratio_bottom) (defBody s_Ratio_bottom) (defScope s_Ratio_bottom) .none kV_Ratio_bottom dc_Ratio_bottom pm_Ratio_bottom an_Ratio_bottom cd_Ratio_bottom ct_Ratio_bottom), sl_Ratio_bottom⟩)
    (c_Ratio_bottom : PySem.W.codeIn K cd_Ratio_bottom "Ratio.bottom" = true)
    (k_Ratio_bottom : PySem.W.keepIn K (.ref f_Ratio_bottom) = true)
    (a_Ratio_eq : PySem.W.findIn K (.ref f_Ratio) "__eq__" = some (some (.ref f_Ratio_eq)))
    (i_Ratio_eq : PySem.W.isFn K (.ref f_Ratio_eq) = true)
    (l_Ratio_eq : K.lookup f_Ratio_eq = some ⟨oc_Ratio_eq, od_Ratio_eq, .func (PySem.W.fnOf "__eq__" "Ratio.__eq__" (defArgs s_Ratio_eq) (defBody s_Ratio_eq) (defScope s_Ratio_eq) .none kV_Ratio_eq dc_Ratio_eq pm_Ratio_eq an_Ratio_eq cd_Ratio_eq ct_Ratio_eq), sl_Ratio_eq⟩)
    (c_Ratio_eq : PySem.W.codeIn K cd_Ratio_eq "Ratio.__eq__" = true)
    (k_Ratio_eq : PySem.W.keepIn K (.ref f_Ratio_eq) = true)
    (a_Standing_init : PySem.W.findIn K (.ref f_Standing) "__init__" = some (some (.ref f_Standing_init)))
    (i_Standing_init : PySem.W.isFn K (.ref f_Standing_init) = true)
    (l_Standing_init : K.lookup f_Standing_init = some ⟨oc_Standing_init, od_Standing_init, .func (PySem.W.fnOf "__init__" "Standing.__init__" (defArgs s_Standing_init) (defBody s_Standing_init) (defScope s_Standing_init) .none kV_Standing_init dc_Standing_init pm_Standing_init an_Standing_init cd_Standing_init ct_Standing_init), sl_Standing_init⟩)
    (c_Standing_init : PySem.W.codeIn K cd_Standing_init "Standing.__init__" = true)
    (k_Standing_init : PySem.W.keepIn K (.ref f_Standing_init) = true)
    (a_Standing_loads : PySem.W.findIn K (.ref f_Standing) "loads" = some (some (.ref p_Standing_loads)))
    (pg_Standing_loads : PySem.W.specialIn K (.ref p_Standing_loads) "__get__" = some (some (.builtin "property.__get__")))
    (pt_Standing_loads : PySem.W.takesIn K (.ref p_Standing_loads) = some true)
    (pr_Standing_loads : PySem.W.recIn K p_Standing_loads "property" = some (.ref f_Standing_loads :: rs_Standing_loads))
    (l_Standing_loads : K.lookup f_Standing_loads = some ⟨oc_Standing_loads, od_Standing_loads, .func (PySem.W.fnOf "loads" "Standing.loads" (defArgs s_Standing_loads) (defBody s_Standing_loads) (defScope s_Standing_loads) .none kV_Standing_loads dc_Standing_loads pm_Standing_loads an_Standing_loads cd_Standing_loads ct_Standing_loads), sl_Standing_loads⟩)
    (c_Standing_loads : PySem.W.codeIn K cd_Standing_loads "Standing.loads" = true)
    (k_Standing_loads : PySem.W.keepIn K (.ref f_Standing_loads) = true)
    (a_Standing_times : PySem.W.findIn K (.ref f_Standing) "times" = some (some (.ref p_Standing_times)))
    (pg_Standing_times : PySem.W.specialIn K (.ref p_Standing_times) "__get__" = some (some (.builtin "property.__get__")))
    (pt_Standing_times : PySem.W.takesIn K (.ref p_Standing_times) = some true)
    (pr_Standing_times : PySem.W.recIn K p_Standing_times "property" = some (.ref f_Standing_times :: rs_Standing_times))
    (l_Standing_times : K.lookup f_Standing_times = some ⟨oc_Standing_times, od_Standing_times, .func (PySem.W.fnOf "times" "Standing.times" (defArgs s_Standing_times) (defBody s_Standing_times) (defScope s_Standing_times) .none kV_Standing_times dc_Standing_times pm_Standing_times an_Standing_times cd_Standing_times ct_Standing_times), sl_Standing_times⟩)
    (c_Standing_times : PySem.W.codeIn K cd_Standing_times "Standing.times" = true)
    (k_Standing_times : PySem.W.keepIn K (.ref f_Standing_times) = true)
    (a_Standing_eq : PySem.W.findIn K (.ref f_Standing) "__eq__" = some (some (.ref f_Standing_eq)))
    (i_Standing_eq : PySem.W.isFn K (.ref f_Standing_eq) = true)
    (l_Standing_eq : K.lookup f_Standing_eq = some ⟨oc_Standing_eq, od_Standing_eq, .func (PySem.W.fnOf "__eq__" "Standing.__eq__" (defArgs s_Standing_eq) (defBody s_Standing_eq) (defScope s_Standing_eq) .none kV_Standing_eq dc_Standing_eq pm_Standing_eq an_Standing_eq cd_Standing_eq ct_Standing_eq), sl_Standing_eq⟩)
    (c_Standing_eq : PySem.W.codeIn K cd_Standing_eq "Standing.__eq__" = true)
    (k_Standing_eq : PySem.W.keepIn K (.ref f_Standing_eq) = true)
    (ot_Ratio_int : PySem.W.subIn K (.ref f_Ratio) (.type "int") = some false)
    (ot_Ratio_str : PySem.W.subIn K (.ref f_Ratio) (.type "str") = some false)
    (ot_Ratio_NoneType : PySem.W.subIn K (.ref f_Ratio) (.type "NoneType") = some false)
    (ot_Ratio_tuple : PySem.W.subIn K (.ref f_Ratio) (.type "tuple") = some false)
    (ot_Ratio_list : PySem.W.subIn K (.ref f_Ratio) (.type "list") = some false)
    (ne_Ratio : PySem.W.findIn K (.ref f_Ratio) "__ne__" = some (some (.builtin "object.__ne__")))
    (ob_Ratio : PySem.W.subIn K (.ref f_Ratio) (.type "object") = some true)
    (ot_Standing_int : PySem.W.subIn K (.ref f_Standing) (.type "int") = some false)
    (ot_Standing_str : PySem.W.subIn K (.ref f_Standing) (.type "str") = some false)
    (ot_Standing_NoneType : PySem.W.subIn K (.ref f_Standing) (.type "NoneType") = some false)
    (ot_Standing_tuple : PySem.W.subIn K (.ref f_Standing) (.type "tuple") = some false)
    (ot_Standing_list : PySem.W.subIn K (.ref f_Standing) (.type "list") = some false)
    (ne_Standing : PySem.W.findIn K (.ref f_Standing) "__ne__" = some (some (.builtin "object.__ne__")))
    (ob_Standing : PySem.W.subIn K (.ref f_Standing) (.type "object") = some true)
    (x_OutOfRange : ∃ nm q N bs bm sn sub ab col dd k0 k1 k2 k3 k5, K.lookup f_OutOfRange = some (excClassObj nm q f_OutOfRange N bs bm true sn sub ab col dd k0 k1 k2 k3 k5 "ValueError.__new__") ∧ PySem.HandSPX.refsVE bm = true)
    (xs_OutOfRange : PySem.W.findIn K (.ref f_OutOfRange) "__setattr__" = some (some (.builtin "object.__setattr__")))
    (xe_OutOfRange : PySem.W.subIn K (.ref f_OutOfRange) (.type "BaseException") = some true)
    (xt_OutOfRange : PySem.W.typeIn K (.ref f_OutOfRange) = some (.type "type"))
    (xk_OutOfRange : PySem.W.keepIn K (.ref f_OutOfRange) = true)
    (xg_OutOfRange : PySem.W.findIn K (.ref f_OutOfRange) "__getattribute__" = some (some (.builtin "BaseException.__getattribute__")))
    (xh_OutOfRange : PySem.W.findIn K (.ref f_OutOfRange) "__getattr__" = some none)
    (xd_OutOfRange : PySem.W.hasDictIn K f_OutOfRange = true)
    (xc_OutOfRange : PySem.W.findIn K (.ref f_OutOfRange) "__class__" = some (some (.builtin "object.__class__")))
    (xm_OutOfRange : PySem.W.mroIn K f_OutOfRange (.type "object") = some true)
    (xi_OutOfRange : PySem.W.isClsIn K f_OutOfRange = true)
    (xf_OutOfRange : PySem.W.typeIn K (.ref f_OutOfRange_init) = some (.type "function"))
    (no_OutOfRange_value : PySem.W.findIn K (.ref f_OutOfRange) "value" = some none)
    (g_gcd : PySem.W.nsIn K mainGlobals "gcd" = some (some (.builtin "math.gcd")))
    (z_abs : PySem.W.nsIn K mainGlobals "abs" = some none)
    (z_dict : PySem.W.nsIn K mainGlobals "dict" = some none)
    (z_int : PySem.W.nsIn K mainGlobals "int" = some none)
    (z_isinstance : PySem.W.nsIn K mainGlobals "isinstance" = some none)
    (z_len : PySem.W.nsIn K mainGlobals "len" = some none)
    (z_list : PySem.W.nsIn K mainGlobals "list" = some none)
    (z_range : PySem.W.nsIn K mainGlobals "range" = some none)
    (z_sorted : PySem.W.nsIn K mainGlobals "sorted" = some none)
    (a_law : PySem.W.nsIn K mainGlobals "law" = some (some (.ref f_law)))
    (l_law : K.lookup f_law = some ⟨oc_law, od_law, .func (PySem.W.fnOf "law" "law" (defArgs s_law) (defBody s_law) (defScope s_law) .none kV_law dc_law pm_law an_law cd_law ct_law), sl_law⟩)
    (c_law : PySem.W.codeIn K cd_law "law" = true)
    (k_law : PySem.W.keepIn K (.ref f_law) = true)
    : ∃ fd : FuncData, (∀ (s : Shared) (v : Value), BindsTo s fd ⟨[v], []⟩ [("_law_script", v)]) ∧ ∀ base : Heap, K.In base → base.Ns mainGlobals mg → FnOk l.prog w K mg base CX0 6 fa fd ["_law_script"] (spLaw K) := by
  have e := hfa.symm.trans (PySem.W.mg_of X G a_law)
  cases e
  obtain ⟨e1_Ratio_init, ev1_Ratio_init, eb1_Ratio_init⟩ := FunD.binds1 (K := K) (f := f_Ratio_init) (fd := PySem.W.fnOf "__init__" "Ratio.__init__" (defArgs s_Ratio_init) (defBody s_Ratio_init) (defScope s_Ratio_init) (.ref dT_Ratio_init) kV_Ratio_init dc_Ratio_init pm_Ratio_init an_Ratio_init cd_Ratio_init ct_Ratio_init) (dvs := [V.int 1]) (kws := []) (ps := ["self", "top", "bottom"]) ⟨⟨_, _, _, _, _, _, _, _, _, _, rfl, l_Ratio_init, c_Ratio_init, .inr ⟨by simp, _, _, [.int 1 dt_Ratio_init], _, rfl, t_Ratio_init, rfl, .cons ⟨_, rfl⟩ .nil⟩, .inl rfl⟩, k_Ratio_init⟩ 2 0 (by simp) rfl fun _ _ _ _ _ _ _ us its hl hi => match us, hl, its, hi with | [_, _], _, [_], _ => ⟨_, rfl, rfl⟩
  obtain ⟨e2_Ratio_init, ev2_Ratio_init, eb2_Ratio_init⟩ := FunD.binds1 (K := K) (f := f_Ratio_init) (fd := PySem.W.fnOf "__init__" "Ratio.__init__" (defArgs s_Ratio_init) (defBody s_Ratio_init) (defScope s_Ratio_init) (.ref dT_Ratio_init) kV_Ratio_init dc_Ratio_init pm_Ratio_init an_Ratio_init cd_Ratio_init ct_Ratio_init) (dvs := [V.int 1]) (kws := []) (ps := ["self", "top", "bottom"]) ⟨⟨_, _, _, _, _, _, _, _, _, _, rfl, l_Ratio_init, c_Ratio_init, .inr ⟨by simp, _, _, [.int 1 dt_Ratio_init], _, rfl, t_Ratio_init, rfl, .cons ⟨_, rfl⟩ .nil⟩, .inl rfl⟩, k_Ratio_init⟩ 3 1 (by simp) rfl fun _ _ _ _ _ _ _ us its hl hi => match us, hl, its, hi with | [_, _, _], _, [_], _ => ⟨_, rfl, rfl⟩
  have T : Txt K mg := {
    f_OutOfRange := f_OutOfRange,
    m_OutOfRange := PySem.W.mg_of X G a_OutOfRange,
    f_Ratio := f_Ratio,
    m_Ratio := PySem.W.mg_of X G a_Ratio,
    cl_Ratio := ⟨pg_Ratio, hd_Ratio, po_Ratio, sa_Ratio⟩,
    ic_Ratio := ⟨⟨pg_Ratio, hd_Ratio, po_Ratio, sa_Ratio⟩, hc_Ratio, hn_class, ht_class, mo_Ratio, kit_self⟩,
    na_Ratio_top := na_Ratio_top,
    na_Ratio_bottom := na_Ratio_bottom,
    sn_Ratio_int := su_Ratio_int,
    ki_Ratio_int := kit_not ic_Ratio ty_Ratio su_Ratio_int (fun z => nomatch z),
    f_Standing := f_Standing,
    m_Standing := PySem.W.mg_of X G a_Standing,
    cl_Standing := ⟨pg_Standing, hd_Standing, po_Standing, sa_Standing⟩,
    ic_Standing := ⟨⟨pg_Standing, hd_Standing, po_Standing, sa_Standing⟩, hc_Standing, hn_class, ht_class, mo_Standing, kit_self⟩,
    na_Standing_loads := na_Standing_loads,
    na_Standing_times := na_Standing_times,
    sn_Standing_int := su_Standing_int,
    ki_Standing_int := kit_not ic_Standing ty_Standing su_Standing_int (fun z => nomatch z),
    f_as_ratio := f_as_ratio,
    d_as_ratio := PySem.W.fnOf "as_ratio" "as_ratio" (defArgs s_as_ratio) (defBody s_as_ratio) (defScope s_as_ratio) .none kV_as_ratio dc_as_ratio pm_as_ratio an_as_ratio cd_as_ratio ct_as_ratio,
    F_as_ratio := fun_mk (st := s_as_ratio) l_as_ratio c_as_ratio k_as_ratio,
    b_as_ratio := (fun_mk (st := s_as_ratio) l_as_ratio c_as_ratio k_as_ratio).binds (ps := ["value"]) fun _ _ _ _ _ _ us hl => match us, hl with | [_], _ => rfl,
    m_as_ratio := PySem.W.mg_of X G a_as_ratio,
    f_start := f_start,
    d_start := PySem.W.fnOf "_law_start" "_law_start" (defArgs s_start) (defBody s_start) (defScope s_start) .none kV_start dc_start pm_start an_start cd_start ct_start,
    F_start := fun_mk (st := s_start) l_start c_start k_start,
    b_start := (fun_mk (st := s_start) l_start c_start k_start).binds (ps := ["_law_script"]) fun _ _ _ _ _ _ us hl => match us, hl with | [_], _ => rfl,
    m_start := PySem.W.mg_of X G a_start,
    f_draw := f_draw,
    d_draw := PySem.W.fnOf "_law_draw" "_law_draw" (defArgs s_draw) (defBody s_draw) (defScope s_draw) .none kV_draw dc_draw pm_draw an_draw cd_draw ct_draw,
    F_draw := fun_mk (st := s_draw) l_draw c_draw k_draw,
    b_draw := (fun_mk (st := s_draw) l_draw c_draw k_draw).binds (ps := ["_law_state", "_law_size"]) fun _ _ _ _ _ _ us hl => match us, hl with | [_, _], _ => rfl,
    m_draw := PySem.W.mg_of X G a_draw,
    f_low := f_low,
    d_low := PySem.W.fnOf "_law_low" "_law_low" (defArgs s_low) (defBody s_low) (defScope s_low) .none kV_low dc_low pm_low an_low cd_low ct_low,
    F_low := fun_mk (st := s_low) l_low c_low k_low,
    b_low := (fun_mk (st := s_low) l_low c_low k_low).binds (ps := ["_law_up", "_law_down"]) fun _ _ _ _ _ _ us hl => match us, hl with | [_, _], _ => rfl,
    m_low := PySem.W.mg_of X G a_low,
    f_plus := f_plus,
    d_plus := PySem.W.fnOf "_law_plus" "_law_plus" (defArgs s_plus) (defBody s_plus) (defScope s_plus) .none kV_plus dc_plus pm_plus an_plus cd_plus ct_plus,
    F_plus := fun_mk (st := s_plus) l_plus c_plus k_plus,
    b_plus := (fun_mk (st := s_plus) l_plus c_plus k_plus).binds (ps := ["_law_one", "_law_two"]) fun _ _ _ _ _ _ us hl => match us, hl with | [_, _], _ => rfl,
    m_plus := PySem.W.mg_of X G a_plus,
    f_is := f_is,
    d_is := PySem.W.fnOf "_law_is" "_law_is" (defArgs s_is) (defBody s_is) (defScope s_is) .none kV_is dc_is pm_is an_is cd_is ct_is,
    F_is := fun_mk (st := s_is) l_is c_is k_is,
    b_is := (fun_mk (st := s_is) l_is c_is k_is).binds (ps := ["_law_actual", "_law_pair"]) fun _ _ _ _ _ _ us hl => match us, hl with | [_, _], _ => rfl,
    m_is := PySem.W.mg_of X G a_is,
    f_value := f_value,
    d_value := PySem.W.fnOf "_law_value" "_law_value" (defArgs s_value) (defBody s_value) (defScope s_value) .none kV_value dc_value pm_value an_value cd_value ct_value,
    F_value := fun_mk (st := s_value) l_value c_value k_value,
    b_value := (fun_mk (st := s_value) l_value c_value k_value).binds (ps := ["_law_state", "_law_pair"]) fun _ _ _ _ _ _ us hl => match us, hl with | [_, _], _ => rfl,
    m_value := PySem.W.mg_of X G a_value,
    f_names := f_names,
    d_names := PySem.W.fnOf "_law_names" "_law_names" (defArgs s_names) (defBody s_names) (defScope s_names) .none kV_names dc_names pm_names an_names cd_names ct_names,
    F_names := fun_mk (st := s_names) l_names c_names k_names,
    b_names := (fun_mk (st := s_names) l_names c_names k_names).binds (ps := ["_law_state", "_law_count"]) fun _ _ _ _ _ _ us hl => match us, hl with | [_, _], _ => rfl,
    m_names := PySem.W.mg_of X G a_names,
    f_table := f_table,
    d_table := PySem.W.fnOf "_law_table" "_law_table" (defArgs s_table) (defBody s_table) (defScope s_table) .none kV_table dc_table pm_table an_table cd_table ct_table,
    F_table := fun_mk (st := s_table) l_table c_table k_table,
    b_table := (fun_mk (st := s_table) l_table c_table k_table).binds (ps := ["_law_state"]) fun _ _ _ _ _ _ us hl => match us, hl with | [_], _ => rfl,
    m_table := PySem.W.mg_of X G a_table,
    f_given := f_given,
    d_given := PySem.W.fnOf "_law_given" "_law_given" (defArgs s_given) (defBody s_given) (defScope s_given) .none kV_given dc_given pm_given an_given cd_given ct_given,
    F_given := fun_mk (st := s_given) l_given c_given k_given,
    b_given := (fun_mk (st := s_given) l_given c_given k_given).binds (ps := ["_law_state", "_law_table_here"]) fun _ _ _ _ _ _ us hl => match us, hl with | [_, _], _ => rfl,
    m_given := PySem.W.mg_of X G a_given,
    f_agrees := f_agrees,
    d_agrees := PySem.W.fnOf "_law_agrees" "_law_agrees" (defArgs s_agrees) (defBody s_agrees) (defScope s_agrees) .none kV_agrees dc_agrees pm_agrees an_agrees cd_agrees ct_agrees,
    F_agrees := fun_mk (st := s_agrees) l_agrees c_agrees k_agrees,
    b_agrees := (fun_mk (st := s_agrees) l_agrees c_agrees k_agrees).binds (ps := ["_law_told", "_law_table_here"]) fun _ _ _ _ _ _ us hl => match us, hl with | [_, _], _ => rfl,
    m_agrees := PySem.W.mg_of X G a_agrees,
    f_near := f_near,
    d_near := PySem.W.fnOf "_law_near" "_law_near" (defArgs s_near) (defBody s_near) (defScope s_near) .none kV_near dc_near pm_near an_near cd_near ct_near,
    F_near := fun_mk (st := s_near) l_near c_near k_near,
    b_near := (fun_mk (st := s_near) l_near c_near k_near).binds (ps := ["_law_state", "_law_table_here"]) fun _ _ _ _ _ _ us hl => match us, hl with | [_, _], _ => rfl,
    m_near := PySem.W.mg_of X G a_near,
    f_OutOfRange_init := f_OutOfRange_init,
    d_OutOfRange_init := PySem.W.fnOf "__init__" "OutOfRange.__init__" (defArgs s_OutOfRange_init) (defBody s_OutOfRange_init) (defScope s_OutOfRange_init) .none kV_OutOfRange_init dc_OutOfRange_init pm_OutOfRange_init an_OutOfRange_init cd_OutOfRange_init ct_OutOfRange_init,
    F_OutOfRange_init := fun_mk (st := s_OutOfRange_init) l_OutOfRange_init c_OutOfRange_init k_OutOfRange_init,
    b_OutOfRange_init := (fun_mk (st := s_OutOfRange_init) l_OutOfRange_init c_OutOfRange_init k_OutOfRange_init).binds (ps := ["self", "value"]) fun _ _ _ _ _ _ us hl => match us, hl with | [_, _], _ => rfl,
    a_OutOfRange_init := a_OutOfRange_init,
    i_OutOfRange_init := i_OutOfRange_init,
    f_Ratio_init := f_Ratio_init,
    d_Ratio_init := PySem.W.fnOf "__init__" "Ratio.__init__" (defArgs s_Ratio_init) (defBody s_Ratio_init) (defScope s_Ratio_init) (.ref dT_Ratio_init) kV_Ratio_init dc_Ratio_init pm_Ratio_init an_Ratio_init cd_Ratio_init ct_Ratio_init,
    F_Ratio_init := ⟨⟨_, _, _, _, _, _, _, _, _, _, rfl, l_Ratio_init, c_Ratio_init, .inr ⟨by simp, _, _, [.int 1 dt_Ratio_init], _, rfl, t_Ratio_init, rfl, .cons ⟨_, rfl⟩ .nil⟩, .inl rfl⟩, k_Ratio_init⟩,
    a_Ratio_init := a_Ratio_init,
    i_Ratio_init := i_Ratio_init,
    mk_Ratio := ⟨mk_Ratio, a_Ratio_init, i_Ratio_init, kc_Ratio⟩,
    f_Ratio_top := f_Ratio_top,
    d_Ratio_top := PySem.W.fnOf "top" "Ratio.top" (defArgs s_Ratio_top) (defBody s_Ratio_top) (defScope s_Ratio_top) .none kV_Ratio_top dc_Ratio_top pm_Ratio_top an_Ratio_top cd_Ratio_top ct_Ratio_top,
    F_Ratio_top := fun_mk (st := s_Ratio_top) l_Ratio_top c_Ratio_top k_Ratio_top,
    b_Ratio_top := (fun_mk (st := s_Ratio_top) l_Ratio_top c_Ratio_top k_Ratio_top).binds (ps := ["self"]) fun _ _ _ _ _ _ us hl => match us, hl with | [_], _ => rfl,
    p0_Ratio_top := p_Ratio_top,
    p_Ratio_top := ⟨a_Ratio_top, pg_Ratio_top, pt_Ratio_top, ⟨_, pr_Ratio_top⟩⟩,
    f_Ratio_bottom := f_Ratio_bottom,
    d_Ratio_bottom := PySem.W.fnOf "bottom" "Ratio.bottom" (defArgs s_Ratio_bottom) (defBody s_Ratio_bottom) (defScope s_Ratio_bottom) .none kV_Ratio_bottom dc_Ratio_bottom pm_Ratio_bottom an_Ratio_bottom cd_Ratio_bottom ct_Ratio_bottom,
    F_Ratio_bottom := fun_mk (st := s_Ratio_bottom) l_Ratio_bottom c_Ratio_bottom k_Ratio_bottom,
    b_Ratio_bottom := (fun_mk (st := s_Ratio_bottom) l_Ratio_bottom c_Ratio_bottom k_Ratio_bottom).binds (ps := ["self"]) fun _ _ _ _ _ _ us hl => match us, hl with | [_], _ => rfl,
    p0_Ratio_bottom := p_Ratio_bottom,
    p_Ratio_bottom := ⟨a_Ratio_bottom, pg_Ratio_bottom, pt_Ratio_bottom, ⟨_, pr_Ratio_bottom⟩⟩,
    f_Ratio_eq := f_Ratio_eq,
    d_Ratio_eq := PySem.W.fnOf "__eq__" "Ratio.__eq__" (defArgs s_Ratio_eq) (defBody s_Ratio_eq) (defScope s_Ratio_eq) .none kV_Ratio_eq dc_Ratio_eq pm_Ratio_eq an_Ratio_eq cd_Ratio_eq ct_Ratio_eq,
    F_Ratio_eq := fun_mk (st := s_Ratio_eq) l_Ratio_eq c_Ratio_eq k_Ratio_eq,
    b_Ratio_eq := (fun_mk (st := s_Ratio_eq) l_Ratio_eq c_Ratio_eq k_Ratio_eq).binds (ps := ["self", "other"]) fun _ _ _ _ _ _ us hl => match us, hl with | [_, _], _ => rfl,
    a_Ratio_eq := a_Ratio_eq,
    i_Ratio_eq := i_Ratio_eq,
    f_Standing_init := f_Standing_init,
    d_Standing_init := PySem.W.fnOf "__init__" "Standing.__init__" (defArgs s_Standing_init) (defBody s_Standing_init) (defScope s_Standing_init) .none kV_Standing_init dc_Standing_init pm_Standing_init an_Standing_init cd_Standing_init ct_Standing_init,
    F_Standing_init := fun_mk (st := s_Standing_init) l_Standing_init c_Standing_init k_Standing_init,
    b_Standing_init := (fun_mk (st := s_Standing_init) l_Standing_init c_Standing_init k_Standing_init).binds (ps := ["self", "loads", "times"]) fun _ _ _ _ _ _ us hl => match us, hl with | [_, _, _], _ => rfl,
    a_Standing_init := a_Standing_init,
    i_Standing_init := i_Standing_init,
    mk_Standing := ⟨mk_Standing, a_Standing_init, i_Standing_init, kc_Standing⟩,
    f_Standing_loads := f_Standing_loads,
    d_Standing_loads := PySem.W.fnOf "loads" "Standing.loads" (defArgs s_Standing_loads) (defBody s_Standing_loads) (defScope s_Standing_loads) .none kV_Standing_loads dc_Standing_loads pm_Standing_loads an_Standing_loads cd_Standing_loads ct_Standing_loads,
    F_Standing_loads := fun_mk (st := s_Standing_loads) l_Standing_loads c_Standing_loads k_Standing_loads,
    b_Standing_loads := (fun_mk (st := s_Standing_loads) l_Standing_loads c_Standing_loads k_Standing_loads).binds (ps := ["self"]) fun _ _ _ _ _ _ us hl => match us, hl with | [_], _ => rfl,
    p0_Standing_loads := p_Standing_loads,
    p_Standing_loads := ⟨a_Standing_loads, pg_Standing_loads, pt_Standing_loads, ⟨_, pr_Standing_loads⟩⟩,
    f_Standing_times := f_Standing_times,
    d_Standing_times := PySem.W.fnOf "times" "Standing.times" (defArgs s_Standing_times) (defBody s_Standing_times) (defScope s_Standing_times) .none kV_Standing_times dc_Standing_times pm_Standing_times an_Standing_times cd_Standing_times ct_Standing_times,
    F_Standing_times := fun_mk (st := s_Standing_times) l_Standing_times c_Standing_times k_Standing_times,
    b_Standing_times := (fun_mk (st := s_Standing_times) l_Standing_times c_Standing_times k_Standing_times).binds (ps := ["self"]) fun _ _ _ _ _ _ us hl => match us, hl with | [_], _ => rfl,
    p0_Standing_times := p_Standing_times,
    p_Standing_times := ⟨a_Standing_times, pg_Standing_times, pt_Standing_times, ⟨_, pr_Standing_times⟩⟩,
    f_Standing_eq := f_Standing_eq,
    d_Standing_eq := PySem.W.fnOf "__eq__" "Standing.__eq__" (defArgs s_Standing_eq) (defBody s_Standing_eq) (defScope s_Standing_eq) .none kV_Standing_eq dc_Standing_eq pm_Standing_eq an_Standing_eq cd_Standing_eq ct_Standing_eq,
    F_Standing_eq := fun_mk (st := s_Standing_eq) l_Standing_eq c_Standing_eq k_Standing_eq,
    b_Standing_eq := (fun_mk (st := s_Standing_eq) l_Standing_eq c_Standing_eq k_Standing_eq).binds (ps := ["self", "other"]) fun _ _ _ _ _ _ us hl => match us, hl with | [_, _], _ => rfl,
    a_Standing_eq := a_Standing_eq,
    i_Standing_eq := i_Standing_eq,
    oth_Ratio := ⟨a_Ratio_eq, i_Ratio_eq, ot_Ratio_int, ot_Ratio_str, ot_Ratio_NoneType, ot_Ratio_tuple, ot_Ratio_list⟩,
    none_Ratio := ⟨ne_Ratio, ob_Ratio, a_Ratio_eq, i_Ratio_eq⟩,
    oth_Standing := ⟨a_Standing_eq, i_Standing_eq, ot_Standing_int, ot_Standing_str, ot_Standing_NoneType, ot_Standing_tuple, ot_Standing_list⟩,
    none_Standing := ⟨ne_Standing, ob_Standing, a_Standing_eq, i_Standing_eq⟩,
    kb_Standing_init_times_loads := ⟨fun _ us ws _ hl hw => match us, ws, hl, hw with | [_], [_, _], _, _ => .of_eq rfl, fun r1 r2 => r1.append (permL_rel _ r2)⟩,
    e1_Ratio_init := e1_Ratio_init,
    v1_Ratio_init := ev1_Ratio_init,
    b1_Ratio_init := eb1_Ratio_init,
    e2_Ratio_init := e2_Ratio_init,
    v2_Ratio_init := ev2_Ratio_init,
    b2_Ratio_init := eb2_Ratio_init,
    ox_OutOfRange := ⟨x_OutOfRange, xs_OutOfRange, xe_OutOfRange, xt_OutOfRange, xk_OutOfRange⟩,
    ix_OutOfRange := a_OutOfRange_init,
    tx_OutOfRange := xf_OutOfRange,
    xf_OutOfRange := ⟨xg_OutOfRange, xh_OutOfRange, xe_OutOfRange, xd_OutOfRange⟩,
    ec_OutOfRange := ⟨xg_OutOfRange, xh_OutOfRange, xe_OutOfRange, xd_OutOfRange, xc_OutOfRange, hn_class, ht_class, xm_OutOfRange⟩,
    no_OutOfRange_value := no_OutOfRange_value,
    g_gcd := PySem.W.mg_of X G g_gcd,
    n_abs := PySem.W.mg_none_of X G z_abs,
    n_dict := PySem.W.mg_none_of X G z_dict,
    n_int := PySem.W.mg_none_of X G z_int,
    n_isinstance := PySem.W.mg_none_of X G z_isinstance,
    n_len := PySem.W.mg_none_of X G z_len,
    n_list := PySem.W.mg_none_of X G z_list,
    n_range := PySem.W.mg_none_of X G z_range,
    n_sorted := PySem.W.mg_none_of X G z_sorted }
  exact ⟨PySem.W.fnOf "law" "law" (defArgs s_law) (defBody s_law) (defScope s_law) .none kV_law dc_law pm_law an_law cd_law ct_law, fun s v => .of_eq rfl, fun base _ _ => ok_law T (fun_mk (st := s_law) l_law c_law k_law)⟩
end My
open PySem PySem.W PyProof.Rows
set_option maxRecDepth 100000 in
set_option maxHeartbeats 0 in
theorem PySem.Challenge.cw_extralink_k54_standings_holds : PySem.Challenge.rw_extralink_k54_standings.Holds := by
  w_on; o_law; k_head; (case hw => w_witness2)
  k_fill
  refine L2.walk_of (l := PySem.Challenge.rw_extralink_k54_standings) (n := 63) (k := 6) (x := "_law_script") (CX := fun _ => L2.CX0) (sp := fun w => My.spLaw _) rfl (by decide) rfl ⟨rfl, by decide, by decide⟩ (fun w h Y => PySem.W.kIn_of Y) ?F (fun _ _ a ns hl _ hS => ⟨a, ns, rfl, hS, hl, fun _ => rfl⟩) (fun _ _ _ _ _ h => h)
  case F =>
    intro w mg fa h KX G hmg
    refine' My.all_mk KX G hmg ?a_OutOfRange ?a_Ratio ?pg_Ratio ?hd_Ratio ?po_Ratio ?sa_Ratio ?mk_Ratio ?kc_Ratio ?hc_Ratio ?mo_Ratio ?ic_Ratio ?ty_Ratio ?hn_class ?ht_class ?na_Ratio_top ?na_Ratio_bottom ?su_Ratio_int ?a_Standing ?pg_Standing ?hd_Standing ?po_Standing ?sa_Standing ?mk_Standing ?kc_Standing ?hc_Standing ?mo_Standing ?ic_Standing ?ty_Standing ?na_Standing_loads ?na_Standing_times ?su_Standing_int ?a_as_ratio ?l_as_ratio ?c_as_ratio ?k_as_ratio ?a_start ?l_start ?c_start ?k_start ?a_draw ?l_draw ?c_draw ?k_draw ?a_low ?l_low ?c_low ?k_low ?a_plus ?l_plus ?c_plus ?k_plus ?a_is ?l_is ?c_is ?k_is ?a_value ?l_value ?c_value ?k_value ?a_names ?l_names ?c_names ?k_names ?a_table ?l_table ?c_table ?k_table ?a_given ?l_given ?c_given ?k_given ?a_agrees ?l_agrees ?c_agrees ?k_agrees ?a_near ?l_near ?c_near ?k_near ?a_OutOfRange_init ?i_OutOfRange_init ?l_OutOfRange_init ?c_OutOfRange_init ?k_OutOfRange_init ?a_Ratio_init ?i_Ratio_init ?l_Ratio_init ?c_Ratio_init ?k_Ratio_init ?t_Ratio_init ?a_Ratio_top ?pg_Ratio_top ?pt_Ratio_top ?pr_Ratio_top ?l_Ratio_top ?c_Ratio_top ?k_Ratio_top ?a_Ratio_bottom ?pg_Ratio_bottom ?pt_Ratio_bottom ?pr_Ratio_bottom ?l_Ratio_bottom ?c_Ratio_bottom ?k_Ratio_bottom ?a_Ratio_eq ?i_Ratio_eq ?l_Ratio_eq ?c_Ratio_eq ?k_Ratio_eq ?a_Standing_init ?i_Standing_init ?l_Standing_init ?c_Standing_init ?k_Standing_init ?a_Standing_loads ?pg_Standing_loads ?pt_Standing_loads ?pr_Standing_loads ?l_Standing_loads ?c_Standing_loads ?k_Standing_loads ?a_Standing_times ?pg_Standing_times ?pt_Standing_times ?pr_Standing_times ?l_Standing_times ?c_Standing_times ?k_Standing_times ?a_Standing_eq ?i_Standing_eq ?l_Standing_eq ?c_Standing_eq ?k_Standing_eq ?ot_Ratio_int ?ot_Ratio_str ?ot_Ratio_NoneType ?ot_Ratio_tuple ?ot_Ratio_list ?ne_Ratio ?ob_Ratio ?ot_Standing_int ?ot_Standing_str ?ot_Standing_NoneType ?ot_Standing_tuple ?ot_Standing_list ?ne_Standing ?ob_Standing ?x_OutOfRange ?xs_OutOfRange ?xe_OutOfRange ?xt_OutOfRange ?xk_OutOfRange ?xg_OutOfRange ?xh_OutOfRange ?xd_OutOfRange ?xc_OutOfRange ?xm_OutOfRange ?xi_OutOfRange ?xf_OutOfRange ?no_OutOfRange_value ?g_gcd ?z_abs ?z_dict ?z_int ?z_isinstance ?z_len ?z_list ?z_range ?z_sorted ?a_law ?l_law ?c_law ?k_law
    (case a_OutOfRange => k_is)
    (case a_Ratio => k_is)
    (case pg_Ratio => k_is)
    (case hd_Ratio => k_is)
    (case po_Ratio => k_is)
    (case sa_Ratio => k_is)
    (case mk_Ratio => k_is)
    (case kc_Ratio => k_is)
    (case hc_Ratio => k_is)
    (case mo_Ratio => k_is)
    (case ic_Ratio => k_is)
    (case ty_Ratio => k_is)
    (case hn_class => k_is)
    (case ht_class => k_is)
    (case na_Ratio_top => k_is)
    (case na_Ratio_bottom => k_is)
    (case su_Ratio_int => k_is)
    (case a_Standing => k_is)
    (case pg_Standing => k_is)
    (case hd_Standing => k_is)
    (case po_Standing => k_is)
    (case sa_Standing => k_is)
    (case mk_Standing => k_is)
    (case kc_Standing => k_is)
    (case hc_Standing => k_is)
    (case mo_Standing => k_is)
    (case ic_Standing => k_is)
    (case ty_Standing => k_is)
    (case na_Standing_loads => k_is)
    (case na_Standing_times => k_is)
    (case su_Standing_int => k_is)
    (case a_as_ratio => k_is)
    (case l_as_ratio => k_is)
    (case c_as_ratio => k_is)
    (case k_as_ratio => k_is)
    (case a_start => k_is)
    (case l_start => k_is)
    (case c_start => k_is)
    (case k_start => k_is)
    (case a_draw => k_is)
    (case l_draw => k_is)
    (case c_draw => k_is)
    (case k_draw => k_is)
    (case a_low => k_is)
    (case l_low => k_is)
    (case c_low => k_is)
    (case k_low => k_is)
    (case a_plus => k_is)
    (case l_plus => k_is)
    (case c_plus => k_is)
    (case k_plus => k_is)
    (case a_is => k_is)
    (case l_is => k_is)
    (case c_is => k_is)
    (case k_is => k_is)
    (case a_value => k_is)
    (case l_value => k_is)
    (case c_value => k_is)
    (case k_value => k_is)
    (case a_names => k_is)
    (case l_names => k_is)
    (case c_names => k_is)
    (case k_names => k_is)
    (case a_table => k_is)
    (case l_table => k_is)
    (case c_table => k_is)
    (case k_table => k_is)
    (case a_given => k_is)
    (case l_given => k_is)
    (case c_given => k_is)
    (case k_given => k_is)
    (case a_agrees => k_is)
    (case l_agrees => k_is)
    (case c_agrees => k_is)
    (case k_agrees => k_is)
    (case a_near => k_is)
    (case l_near => k_is)
    (case c_near => k_is)
    (case k_near => k_is)
    (case a_OutOfRange_init => k_is)
    (case i_OutOfRange_init => k_is)
    (case l_OutOfRange_init => k_is)
    (case c_OutOfRange_init => k_is)
    (case k_OutOfRange_init => k_is)
    (case a_Ratio_init => k_is)
    (case i_Ratio_init => k_is)
    (case l_Ratio_init => k_is)
    (case c_Ratio_init => k_is)
    (case k_Ratio_init => k_is)
    (case t_Ratio_init => k_is)
    (case a_Ratio_top => k_is)
    (case pg_Ratio_top => k_is)
    (case pt_Ratio_top => k_is)
    (case pr_Ratio_top => k_is)
    (case l_Ratio_top => k_is)
    (case c_Ratio_top => k_is)
    (case k_Ratio_top => k_is)
    (case a_Ratio_bottom => k_is)
    (case pg_Ratio_bottom => k_is)
    (case pt_Ratio_bottom => k_is)
    (case pr_Ratio_bottom => k_is)
    (case l_Ratio_bottom => k_is)
    (case c_Ratio_bottom => k_is)
    (case k_Ratio_bottom => k_is)
    (case a_Ratio_eq => k_is)
    (case i_Ratio_eq => k_is)
    (case l_Ratio_eq => k_is)
    (case c_Ratio_eq => k_is)
    (case k_Ratio_eq => k_is)
    (case a_Standing_init => k_is)
    (case i_Standing_init => k_is)
    (case l_Standing_init => k_is)
    (case c_Standing_init => k_is)
    (case k_Standing_init => k_is)
    (case a_Standing_loads => k_is)
    (case pg_Standing_loads => k_is)
    (case pt_Standing_loads => k_is)
    (case pr_Standing_loads => k_is)
    (case l_Standing_loads => k_is)
    (case c_Standing_loads => k_is)
    (case k_Standing_loads => k_is)
    (case a_Standing_times => k_is)
    (case pg_Standing_times => k_is)
    (case pt_Standing_times => k_is)
    (case pr_Standing_times => k_is)
    (case l_Standing_times => k_is)
    (case c_Standing_times => k_is)
    (case k_Standing_times => k_is)
    (case a_Standing_eq => k_is)
    (case i_Standing_eq => k_is)
    (case l_Standing_eq => k_is)
    (case c_Standing_eq => k_is)
    (case k_Standing_eq => k_is)
    (case ot_Ratio_int => k_is)
    (case ot_Ratio_str => k_is)
    (case ot_Ratio_NoneType => k_is)
    (case ot_Ratio_tuple => k_is)
    (case ot_Ratio_list => k_is)
    (case ne_Ratio => k_is)
    (case ob_Ratio => k_is)
    (case ot_Standing_int => k_is)
    (case ot_Standing_str => k_is)
    (case ot_Standing_NoneType => k_is)
    (case ot_Standing_tuple => k_is)
    (case ot_Standing_list => k_is)
    (case ne_Standing => k_is)
    (case ob_Standing => k_is)
    (case x_OutOfRange => exact ⟨_, _, _, _, _, _, _, _, _, _, _, _, _, _, _, by k_is, by decide +kernel⟩)
    (case xs_OutOfRange => k_is)
    (case xe_OutOfRange => k_is)
    (case xt_OutOfRange => k_is)
    (case xk_OutOfRange => k_is)
    (case xg_OutOfRange => k_is)
    (case xh_OutOfRange => k_is)
    (case xd_OutOfRange => k_is)
    (case xc_OutOfRange => k_is)
    (case xm_OutOfRange => k_is)
    (case xi_OutOfRange => k_is)
    (case xf_OutOfRange => k_is)
    (case no_OutOfRange_value => k_is)
    (case g_gcd => k_is)
    (case z_abs => k_is)
    (case z_dict => k_is)
    (case z_int => k_is)
    (case z_isinstance => k_is)
    (case z_len => k_is)
    (case z_list => k_is)
    (case z_range => k_is)
    (case z_sorted => k_is)
    (case a_law => k_is)
    (case l_law => k_is)
    (case c_law => k_is)
    (case k_law => k_is)
