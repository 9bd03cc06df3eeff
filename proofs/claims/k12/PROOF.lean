import PyProof.Rows.All
import Wide.All
import OpenK.AllK
import Wide.FinOn
import PyProof.Rows.SeqMore
import HandS.ForMost
import HandS.Exc
import HandS.TryOnly
import HandS.ExcOwn
import HandS.WordsExc
import HandS.IsInst
import HandS.Wide
import HandS.TupAny
import HandS.Flow
import HandS.FStr
import HandS.NoneIn
import HandS.SortKw
import HandS.Codes
import HandS.Steps
import HandS.DictComp
import HandS.WordsDict
import HandS.More
import HandS.Walk
import HandS.Star
import HandS.Deep
import HandS.ExcIs
import HandS.Zip
import HandS.GenList
import HandS.GenCall
import HandS.TryMany
import KE.SortData
import PySem.Challenge.RW_legion_k12_marks_and_lines
set_option Elab.async false
set_option linter.all false
set_option maxRecDepth 100000
namespace My
open PySem PySem.Spec PyProof.Rows L2
/-! ### lists that are read only, joined -/
def rCatS (K : PySem.W.Frag) : R2 := fun x y H Q => ∃ l b xs zs, x = .ref l ∧ y = .ref b ∧ SqL K H l xs ∧ SqL K H b zs ∧ xs.length + zs.length ≤ sizeLine ∧ ∀ p, H p = none → Q (.ref p) (upd H p (.lst (xs ++ zs)))
theorem op_catS {X : Cx} : OpR X (binaryOp .Add) (rCatS X.K) := by
  intro pins s σ H x y v u Q I rx ry h
  obtain ⟨l, b, xs, zs, rfl, rfl, hH, hB, hz, q⟩ := h
  cases rx
  cases ry
  obtain ⟨its, r, pl, z⟩ := I.list hH
  obtain ⟨its2, r2, pl2, z2⟩ := I.list hB
  have hl := r.length
  have hl2 := r2.length
  obtain ⟨⟨cls, dd, data, sl⟩, ho, hc, n, hd⟩ := pl.isList
  obtain ⟨⟨cls2, dd2, data2, sl2⟩, ho2, hc2, n2, hd2⟩ := pl2.isList
  simp only at hc hd hc2 hd2
  subst hc hd hc2 hd2
  have ea : its.toArray ++ its2.toArray = (its ++ its2).toArray := by simp
  refine concat_meets ⟨_, ho, rfl⟩ ⟨_, ho2, rfl⟩ noFill_list_add seq_list_add PySem.F.slot_list_add PySem.F.entry_list_add (PySem.F.args_list_add_2 _ _) (list_addW l b its.toArray its2.toArray n n2 dd dd2 sl sl2 (by rw [List.size_toArray, List.size_toArray]; omega)) ⟨ho, ho2, ?_⟩
  rw [ea]
  exact ⟨.ref _, _, I.lnew (t' := s.toks) (r.append r2) (by rw [List.length_append]; omega), rfl, q _ I.fresh⟩
/-- is True, is False, of anything -/
def rIsBl : R2 := fun x y H Q => ∃ b, y = .bl b ∧ Q (.bl (decide (x = .bl b))) H
theorem op_isBv {X : Cx} : OpR X (compareOp .Is) rIsBl := by
  intro pins s σ H x y v u Q I rx ry h
  obtain ⟨b, rfl, q⟩ := h
  cases (show u = Value.bool b from ry)
  have go : ∀ v : Value, plainIs v (.bool b) = true → (v == Value.bool b) = decide (x = .bl b) → wpAny (model X.prog X.w) X.A (compareOp .Is v (.bool b)) (EP X pins σ Q) X.xe s := fun v hp e =>
    wpAny_is_plain hp (by rw [e]; exact ⟨.bl _, H, I, rfl, q⟩)
  cases x with
  | bl c =>
    cases (show v = Value.bool c from rx)
    refine go _ rfl ?_
    cases b <;> cases c <;> rfl
  | non => cases (show v = Value.none from rx); exact go _ rfl rfl
  | int i => obtain ⟨t, rfl⟩ := (show ∃ t, v = Value.int i t from rx); exact go _ rfl rfl
  | str i => obtain ⟨t, rfl⟩ := (show ∃ t, v = Value.str i t from rx); exact go _ rfl rfl
  | byt i => obtain ⟨t, rfl⟩ := (show ∃ t, v = Value.bytes i t from rx); exact go _ rfl rfl
  | flt i => obtain ⟨t, rfl⟩ := (show ∃ t, v = Value.float i t from rx); exact go _ rfl rfl
  | ref a => cases (show v = Value.ref a from rx); exact go _ rfl rfl
  | ty a => cases (show v = Value.type a from rx); exact go _ rfl rfl
/-! ### rules with the written part named -/
section
variable {X : Cx} (K : PySem.W.Frag)
theorem ixL (h : X.K = K := by rfl) : IxR X (rIxL K) := h ▸ ix_list
theorem ixT (h : X.K = K := by rfl) : IxR X (rIxT K) := h ▸ ix_tup
theorem ixQ (h : X.K = K := by rfl) : IxR X (rIx K) := h ▸ ix_seq
theorem opIn (h : X.K = K := by rfl) : OpR X (compareOp .In) (rIn K false) := h ▸ op_in_seq
theorem opNotIn (h : X.K = K := by rfl) : OpR X (compareOp .NotIn) (rIn K true) := h ▸ op_notIn_seq
theorem opCat (h : X.K = K := by rfl) : OpR X (binaryOp .Add) (rCatS K) := h ▸ op_catS
theorem opCatT (h : X.K = K := by rfl) : OpR X (binaryOp .Add) (rCatA K) := h ▸ op_catA
theorem opEqD (hu : X.A.units + 64 < cLine) (h : X.K = K := by rfl) : OpR X (compareOp .Eq) (rEqD K) := h ▸ op_eqD hu
theorem opNeD (hu : X.A.units + 64 < cLine) (h : X.K = K := by rfl) : OpR X (compareOp .NotEq) (rNeD K) := h ▸ op_neD hu
theorem slL (h : X.K = K := by rfl) : SlR X (rSlL K) := h ▸ sl_list
theorem slT (h : X.K = K := by rfl) : SlR X (rSlT K) := h ▸ sl_tup
def rLenQ (K : PySem.W.Frag) : List V → Hp → VK → Prop := fun xs H Q => ∃ p ys, xs = [.ref p] ∧ (SqL K H p ys ∨ SqT K H p ys) ∧ Q (.int ys.length) H
theorem cLen (h : X.K = K := by rfl) : CallR X (.builtin "len") (rLenQ K) := h ▸ call_len_seq
def rListQ (K : PySem.W.Frag) : List V → Hp → VK → Prop := fun xs H Q => ∃ p ys, xs = [.ref p] ∧ (SqL K H p ys ∨ SqT K H p ys) ∧ ∀ l, H l = none → Q (.ref l) (upd H l (.lst ys))
theorem cList (h : X.K = K := by rfl) : CallR X (.type "list") (rListQ K) := h ▸ call_list_of
theorem cSum (hc : X.calm = true) (h : X.K = K := by rfl) : CallR X (.builtin "sum") (rSum K) := h ▸ cr_sum hc
theorem cAll (hc : X.calm = true) (h : X.K = K := by rfl) : CallR X (.builtin "all") (rAll K) := h ▸ cr_all hc
theorem cAny (hc : X.calm = true) (h : X.K = K := by rfl) : CallR X (.builtin "any") (rAny K) := h ▸ cr_any hc
theorem cIsi (h : X.K = K := by rfl) : CallR X (.builtin "isinstance") (rIsi K) := h ▸ call_isi
theorem peBm {T name id : String} {r : V → List V → Hp → VK → Prop} {to : TE} {t : TA} {o e : Expr} {es : List Expr} {apos cpos : Pos} (pa : PlainAttrs T) (slot : Slot T name id) (hty : typeOf (.builtin id) = pure (.type "method_descriptor")) (hm : MtR X id r) (ho : PE X o to) (ha : PA X (e :: es) t) (h : X.K = K := by rfl)
    (hbase : attributeBase o name X.env (eval o X.env) = eval o X.env := by rfl)
    (hfew : ((backTo cpos (starEach (e :: es) X.env)).all (fun x => !x.1) && (backToKw cpos (keywordEach [] X.env)).all (fun x => x.1.isSome)
      && decide ((e :: es).length + ([] : List Keyword).length + (if ([] : List Keyword).isEmpty then 0 else 1) < 30)) = true := by rfl)
    (hline : (apos.endLine == cpos.line) = true := by rfl) (hs : starEach (e :: es) X.env = (false, eval e X.env) :: starEach es X.env := by rfl) (hplain : (backTo cpos (starEach es X.env)).any (·.1) = false := by rfl) :
    PE X (.Call (.Attribute o name apos) (e :: es) [] cpos) (tBM K T r to t) := h ▸ pe_bm pa slot hty hm ho ha hbase hfew hline hs hplain
def tTruK (K : PySem.W.Frag) (ta : TE) : TT := fun σ H Q => ta σ H fun x H' => ∃ k, TruV K x H' k ∧ Q k H'
theorem ptTru {a : Expr} {ta : TE} (ha : PE X a ta) (he : ∀ whole, isTrue a X.env whole = (do let v ← whole; standAt a.pos; holding [v] (truthy v))) (h : X.K = K := by rfl) : PT X a (tTruK K ta) := h ▸ pt_truth ha he
theorem piL {tg l : Expr} {tl : TE} (hl : PE X l tl) (h : X.K = K := by rfl) : PI X tg l (iList K tl) := h ▸ pi_list hl
theorem piT {tg l : Expr} {tl : TE} (hl : PE X l tl) (h : X.K = K := by rfl) : PI X tg l (iTup K tl) := h ▸ pi_tup hl
end
/-! ### a def that is known -/
structure Fd (P : Program) (w : World) (K : PySem.W.Frag) (mg : Str → Option Value) (base : Heap) (x : Str) (ps : List Str) (k : Nat) (sp : Sp) : Prop where
  ex : ∃ (f : Addr) (fd : FuncData), FnOk P w K mg base CX0 k f fd ps sp ∧ mg x = some (.ref f) ∧ PySem.W.keepIn K (.ref f) = true ∧ Binds K fd ps []
theorem pe_fn {X : Cx} {x : Str} {ps : List Str} {k : Nat} {sp : Sp} {e : Expr} {es : List Expr} {t : TA} {p pos : Pos} (F : Fd X.prog X.w X.K X.mg X.base x ps k sp) (hr : Room k X.A) (hg : Gl X x) (ha : PA X (e :: es) t)
    (hdb : (x == ("__debug__" : Str)) = false := by decide) (he : starEach (e :: es) X.env = (false, eval e X.env) :: starEach es X.env := by rfl) (hpl : (backTo pos (starEach es X.env)).any (·.1) = false := by rfl) :
    PE X (.Call (.Name x p) (e :: es) [] pos) (tCall sp [] E0 t) := by
  obtain ⟨f, fd, G, m, kp, b⟩ := F.ex
  exact pe_call G hr hg m kp b .nil pass0 ha hdb he hpl
/-- the built-ins stand as they were -/
structure Bt (mg : Str → Option Value) : Prop where
  len : mg "len" = none
  int : mg "int" = none
  abs : mg "abs" = none
  range : mg "range" = none
  min : mg "min" = none
  str : mg "str" = none
  isinstance : mg "isinstance" = none
  bool : mg "bool" = none
  sum : mg "sum" = none
  list : mg "list" = none
  tuple : mg "tuple" = none
  repr : mg "repr" = none
  sorted : mg "sorted" = none
  enumerate : mg "enumerate" = none
  zip : mg "zip" = none
  all : mg "all" = none
  dict : mg "dict" = none
  max : mg "max" = none
  set : mg "set" = none
  ValueError : mg "ValueError" = none
/-! ### heaps -/
theorem same_new {H : Hp} {p : Addr} {o : HO} (h : H p = none) : Same H (upd H p o) := fun b x e => by
  rw [upd_ne (ne_of_none e h)]
  exact e
/-- an object that H does not know may change -/
theorem Same.mut {H H' : Hp} {p : Addr} {o : HO} (e : Same H H') (h : H p = none) : Same H (upd H' p o) := fun a u ha => by
  rw [upd_ne (ne_of_none ha h)]
  exact e a u ha
theorem sq {K : PySem.W.Frag} {H : Hp} {a : Addr} {xs : List V} (h : H a = some (.lst xs)) : SqL K H a xs := .inl (.inl h)
theorem st {K : PySem.W.Frag} {H : Hp} {a : Addr} {xs : List V} (h : H a = some (.tup xs)) : SqT K H a xs := .inl (.inl h)
theorem sz {n : Nat} (h : n ≤ 100000) : n ≤ sizeLine := Nat.le_trans h (by decide)
theorem szl {n : Nat} (h : n < 100000) : n < sizeLine := Nat.lt_of_lt_of_le h (by decide)
theorem Same.seqT {K : PySem.W.Frag} {H H' : Hp} {a : Addr} {xs : List V} (e : Same H H') (h : SqT K H a xs) : SqT K H' a xs := by
  rcases h with (h | ⟨o, h⟩) | h
  · exact .inl (.inl (e _ _ h))
  · exact .inl (.inr ⟨o, e _ _ h⟩)
  · exact .inr h
/-! ### numbers drawn below limits -/
def DOk : List Int → List Int → Prop
  | [], [] => True
  | d :: ds, m :: ms => (0 ≤ d ∧ d < m) ∧ DOk ds ms
  | _, _ => False
theorem DOk.snoc : ∀ {ds ms : List Int} {d m : Int}, DOk ds ms → 0 ≤ d → d < m → DOk (ds ++ [d]) (ms ++ [m])
  | [], [], _, _, _, h0, h1 => ⟨⟨h0, h1⟩, trivial⟩
  | [], _ :: _, _, _, h, _, _ => h.elim
  | _ :: _, [], _, _, h, _, _ => h.elim
  | _ :: _, _ :: _, _, _, h, h0, h1 => ⟨h.1, DOk.snoc h.2 h0 h1⟩
theorem DOk.len : ∀ {ds ms : List Int}, DOk ds ms → ds.length = ms.length
  | [], [], _ => rfl
  | [], _ :: _, h => h.elim
  | _ :: _, [], h => h.elim
  | _ :: _, _ :: _, h => by rw [List.length_cons, List.length_cons, DOk.len h.2]
theorem DOk.at : ∀ {ds ms : List Int} {i : Nat} {m : Int}, DOk ds ms → ms[i]? = some m → ∃ d, ds[i]? = some d ∧ 0 ≤ d ∧ d < m
  | [], [], _, _, _, e => by simp at e
  | [], _ :: _, _, _, h, _ => h.elim
  | _ :: _, [], _, _, h, _ => h.elim
  | d :: _, _ :: _, 0, m, h, e => ⟨d, rfl, h.1.1, by have := Option.some.inj e; rw [← this]; exact h.1.2⟩
  | _ :: ds, _ :: ms, i + 1, m, h, e => DOk.at (ds := ds) (ms := ms) (i := i) h.2 e
theorem DOk.cons {ds ms : List Int} {m : Int} (h : DOk ds (m :: ms)) : ∃ d r, ds = d :: r ∧ 0 ≤ d ∧ d < m ∧ DOk r ms := by
  cases ds with
  | nil => exact h.elim
  | cons d r => exact ⟨d, r, rfl, h.1.1, h.1.2, h.2⟩
theorem DOk.nil {ds : List Int} (h : DOk ds []) : ds = [] := by
  cases ds with
  | nil => rfl
  | cons d r => exact h.elim
theorem get_map {α : Type} {f : α → V} {xs : List α} {i : Nat} {x : α} (h : xs[i]? = some x) : (xs.map f)[i]? = some (f x) := by
  rw [List.getElem?_map, h]; rfl
theorem get_map_inv {α : Type} {f : α → V} {xs : List α} {i : Nat} {v : V} (h : (xs.map f)[i]? = some v) : ∃ x, xs[i]? = some x ∧ v = f x := by
  rw [List.getElem?_map] at h
  cases e : xs[i]? with
  | none => rw [e] at h; cases h
  | some x => rw [e] at h; exact ⟨x, rfl, (Option.some.inj h).symm⟩
theorem fmod_pos {a m : Int} (h : 0 < m) : 0 ≤ a.fmod m ∧ a.fmod m < m := ⟨Int.fmod_nonneg_of_pos a h, Int.fmod_lt_of_pos a h⟩
theorem take_snoc {α : Type} {xs : List α} {i : Nat} {x : α} (h : xs[i]? = some x) : xs.take (i + 1) = xs.take i ++ [x] := by
  rw [List.take_add_one, h]; rfl
end My
namespace My
open PySem PySem.Spec PyProof.Rows L2
def topS (i : Nat) : Stmt := PySem.Challenge.pw_legion_k12_marks_and_lines.main.body.getD i (.Pass ⟨0, 0, 0, 0⟩)
theorem atI_in {α : Type} {xs : List α} {i : Int} (h0 : 0 ≤ i) (h1 : i < xs.length) : ∃ v, atI xs i = some v ∧ v ∈ xs := by
  obtain ⟨n, rfl⟩ := Int.eq_ofNat_of_zero_le h0
  have hn : n < xs.length := by omega
  exact ⟨xs[n], atI_nat (List.getElem?_eq_getElem hn), List.getElem_mem hn⟩
theorem atI_map {α : Type} {f : α → V} {xs : List α} {i : Int} (h0 : 0 ≤ i) (h1 : i < xs.length) : ∃ v, atI (xs.map f) i = some (f v) ∧ v ∈ xs ∧ xs[i.toNat]? = some v := by
  obtain ⟨n, rfl⟩ := Int.eq_ofNat_of_zero_le h0
  have hn : n < xs.length := by omega
  exact ⟨xs[n], atI_nat (get_map (List.getElem?_eq_getElem hn)), List.getElem_mem hn, List.getElem?_eq_getElem hn⟩
theorem len_app (a b : Str) : (a ++ b).length = a.length + b.length := by
  show (a.cps ++ b.cps).size = a.cps.size + b.cps.size
  exact Array.size_append
theorem len_join0 : ∀ (parts : List Str), (∀ p ∈ parts, p.length = 1) → (Txt.join (Str.ofString "") parts).length = parts.length := by
  intro parts h
  have e : ∀ parts : List Str, (∀ p ∈ parts, p.length = 1) → (TL.joinL [] (parts.map TL.tl)).length = parts.length := by
    intro parts
    induction parts with
    | nil => intro _; rfl
    | cons p r ih =>
      intro h
      have hp : (TL.tl p).length = 1 := by
        have := h p List.mem_cons_self
        rw [← this]
        exact Array.length_toList
      have hr := ih fun q hq => h q (List.mem_cons_of_mem _ hq)
      cases r with
      | nil => show (TL.tl p).length = 1; exact hp
      | cons q r =>
        show (TL.tl p ++ ([] ++ TL.joinL [] ((q :: r).map TL.tl))).length = _
        rw [List.length_append, List.nil_append, hr, hp, List.length_cons (a := p)]
        omega
  have e2 := TL.tl_join (Str.ofString "") parts
  rw [← TL.join_eq] at e2
  have e3 : (Txt.join (Str.ofString "") parts).length = (TL.tl (Txt.join (Str.ofString "") parts)).length := Array.length_toList.symm
  rw [e3, e2, show TL.tl (Str.ofString "") = [] by decide +kernel]
  exact e parts h
theorem len_digits : ∀ k : Nat, k < 60 → ((toString (k : Int) : String) |> fun s => (Str.ofString s).length) ≤ 2 := by
  intro k hk
  have : ∀ k : Fin 60, ((toString ((k : Nat) : Int) : String) |> fun s => (Str.ofString s).length) ≤ 2 := by decide +kernel
  exact this ⟨k, hk⟩
/-! ### tests that leave the heap -/
theorem ansOr {t u : TT} {σ : L2.St} {H : Hp} {a b : Bool} (ha : Ans t σ H a) (hb : Ans u σ H b) : Ans (tOr t u) σ H (a || b) := fun Q q => ha _ (by
  cases a with
  | true => exact iteT q
  | false => exact iteF (hb Q q))
theorem ansAnd {t u : TT} {σ : L2.St} {H : Hp} {a b : Bool} (ha : Ans t σ H a) (hb : Ans u σ H b) : Ans (tAnd t u) σ H (a && b) := fun Q q => ha _ (by
  cases a with
  | true => exact iteT (hb Q q)
  | false => exact iteF q)
theorem ifS {c : TT} {t u : TS} {D : Ends} {σ : L2.St} {H : Hp} {b : Bool} (h : Ans c σ H b) (ht : b = true → t D σ H) (hu : b = false → u D σ H) : tIfS c t u D σ H := h _ (by
  cases b with
  | true => exact iteT (ht rfl)
  | false => exact iteF (hu rfl))
theorem sum_ones : ∀ {ss : List Str}, (∀ s ∈ ss, s.length = 1) → (ss.map (·.length)).sum = ss.length
  | [], _ => rfl
  | s :: r, h => by
    rw [List.map_cons, List.sum_cons, sum_ones fun x hx => h x (List.mem_cons_of_mem _ hx), h s List.mem_cons_self, List.length_cons]
    omega
theorem flat_strs (ss : List Str) : (ss.map V.str).all flatV = true := by
  rw [List.all_eq_true]
  intro v hv
  obtain ⟨s, _, rfl⟩ := List.mem_map.mp hv
  rfl
theorem szc (n : Nat) {xs : List V} (h : xs.length = n := by rfl) (hn : n ≤ 100000 := by decide) : xs.length ≤ sizeLine := by rw [h]; exact sz hn
theorem ansIsi {K : PySem.W.Frag} {te : TE} {σ : L2.St} {H : Hp} {x : V} {T T2 : String} {b : Bool} (hx : ∀ Q : VK, Q x H → te σ H Q) (ty : TyX K H x (.type T)) (hb : kitB T T2 = some b) :
    Ans (tB (tCB (rIsi K) (tCons te (tCons (tC (.ty T2)) tNil)))) σ H b := fun Q q => hx _ ⟨x, _, _, _, b, rfl, .ty T2, ty, kit_ty hb, _, rfl, q⟩
theorem ansTo {t : TT} {σ : L2.St} {H : Hp} {b b' : Bool} (h : Ans t σ H b) (e : b = b') : Ans t σ H b' := e ▸ h
/-- lo <= x <= hi over whole numbers -/
theorem ansChain {ta tb tc : TE} {σ : L2.St} {H : Hp} {i j k : Int} (ha : Val ta σ H (.int i)) (hb : Val tb σ H (.int j)) (hc : Val tc σ H (.int k)) :
    Ans (tTest (tChain (rI0 fun i j => .bl (decide (i ≤ j))) (rI0 fun i j => .bl (decide (i ≤ j))) ta tb tc)) σ H (decide (i ≤ j) && decide (j ≤ k)) := fun Q q =>
  ha _ (hb _ ⟨i, j, rfl, rfl, _, rfl, by
    by_cases h : i ≤ j
    · rw [if_pos (decide_eq_true h)]
      refine hc _ ⟨j, k, rfl, rfl, _, rfl, ?_⟩
      rw [decide_eq_true h, Bool.true_and] at q
      exact q
    · rw [if_neg (by rw [decide_eq_false h]; exact Bool.false_ne_true)]
      rw [decide_eq_false h, Bool.false_and] at q
      exact ⟨_, rfl, q⟩⟩)
theorem ifQ {c : TT} {t u r : TS} {D : Ends} {σ : L2.St} {H : Hp} {b : Bool} (h : Ans c σ H b) (ht : b = true → t { D with nx := r D } σ H) (hu : b = false → u { D with nx := r D } σ H) : tSeq (tIfS c t u) r D σ H := ifS (D := { D with nx := r D }) h ht hu
theorem noQ {c : TT} {t r : TS} {D : Ends} {σ : L2.St} {H : Hp} (h : Ans c σ H false) (q : r D σ H) : tSeq (tIfS c t tNext) r D σ H := ifQ h (fun z => nomatch z) fun _ => q
theorem noS {c : TT} {t : TS} {D : Ends} {σ : L2.St} {H : Hp} (h : Ans c σ H false) (q : D.nx σ H) : tIfS c t tNext D σ H := ifS h (fun z => nomatch z) fun _ => q
theorem ifR {c : TT} {t r : TS} {D : Ends} {σ : L2.St} {H : Hp} {b : Bool} (h : Ans c σ H b) (ht : b = true → t { D with nx := r D } σ H) (hu : b = false → r D σ H) : tSeq (tIfS c t tNext) r D σ H := ifQ h ht hu
theorem cutV_map {α : Type} (f : α → V) (xs : List α) (lo hi : Option Int) : ∃ ys : List α, cutV (xs.map f) lo hi = ys.map f ∧ ys.length ≤ xs.length ∧ ∀ y ∈ ys, y ∈ xs := by
  refine ⟨(xs.drop (HT.sIx (xs.map f).length 0 lo)).take (HT.sIx (xs.map f).length (xs.map f).length hi - HT.sIx (xs.map f).length 0 lo), ?_, ?_, ?_⟩
  · unfold cutV
    rw [List.map_take, List.map_drop]
  · rw [List.length_take, List.length_drop]
    omega
  · intro y hy
    exact List.mem_of_mem_drop (List.mem_of_mem_take hy)
theorem iteFx {c : Bool} {A B : Prop} (h : c = false) (q : B) : if c = true then A else B := by
  subst h
  exact iteF q
theorem iteTx {c : Bool} {A B : Prop} (h : c = true) (q : A) : if c = true then A else B := by
  subst h
  exact iteT q
/-! ### names -/
def lets : Str := Str.ofString "abcdefghijklmnopqrstuvwxyz"
def sgns : Str := Str.ofString "abcdefghijklmnopqrstuvwxyz0123456789"
def resv : List Str := ["share", "lock", "bell", "kind", "any", "local", "skip", "set", "acquire", "release", "rest", "wake", "start", "check", "await", "mark", "if", "else", "loop", "choose", "or", "end", "and", "not"].map Str.ofString
structure NmF (s : Str) : Prop where
  l1 : 1 ≤ s.length
  l20 : s.length ≤ 20
  hd : ∃ c r, s.cps.toList = c :: r ∧ c ∈ lets.cps.toList
  al : ∀ c ∈ s.cps.toList, c ∈ sgns.cps.toList
theorem str_len (s : Str) : s.cps.toList.length = s.length := Array.length_toList
theorem str_app (a b : Str) : (a ++ b).cps.toList = a.cps.toList ++ b.cps.toList := by
  show (a.cps ++ b.cps).toList = _
  exact Array.toList_append
theorem let_sgn {c : Nat} (h : c ∈ lets.cps.toList) : c ∈ sgns.cps.toList := by
  have e : sgns = lets ++ Str.ofString "0123456789" := by decide +kernel
  rw [e, str_app]
  exact List.mem_append_left _ h
theorem nmF_cons {s : Str} {c : Nat} {r : List Nat} (e : s.cps.toList = c :: r) (hc : c ∈ lets.cps.toList) (hr : ∀ x ∈ r, x ∈ sgns.cps.toList) (hl : r.length ≤ 19) : NmF s := by
  have := str_len s
  rw [e, List.length_cons] at this
  refine ⟨by omega, by omega, ⟨c, r, e, hc⟩, fun x hx => ?_⟩
  rw [e] at hx
  rcases List.mem_cons.mp hx with h | h
  · rw [h]; exact let_sgn hc
  · exact hr x h
def nmfB (l : List Nat) : Bool := match l with
  | [] => false
  | c :: r => decide (c ∈ lets.cps.toList) && (r.all fun x => decide (x ∈ sgns.cps.toList)) && decide (r.length ≤ 19)
theorem nmF_of {s : Str} (h : nmfB s.cps.toList = true) : NmF s := by
  cases e : s.cps.toList with
  | nil => rw [e] at h; cases h
  | cons c r =>
    rw [e] at h
    simp only [nmfB, Bool.and_eq_true, decide_eq_true_eq, List.all_eq_true] at h
    exact nmF_cons e h.1.1 h.1.2 h.2
def digL (i : Nat) : List Nat := (Str.ofString (toString (i : Int))).cps.toList
theorem dig_ok : ∀ i : Fin 31, (∃ c r, digL i = c :: r ∧ c ∉ lets.cps.toList) ∧ (∀ x ∈ digL i, x ∈ sgns.cps.toList) ∧ (digL i).length ≤ 2 := by
  have h : ∀ i : Fin 31, (match digL i with
    | [] => false
    | c :: _ => !decide (c ∈ lets.cps.toList)) = true ∧ ((digL i).all fun x => decide (x ∈ sgns.cps.toList)) = true ∧ (digL i).length ≤ 2 := by decide +kernel
  intro i
  obtain ⟨h1, h2, h3⟩ := h i
  refine ⟨?_, fun x hx => of_decide_eq_true (List.all_eq_true.mp h2 x hx), h3⟩
  cases e : digL i with
  | nil => rw [e] at h1; cases h1
  | cons c r => rw [e] at h1; exact ⟨c, r, rfl, by simpa using h1⟩
def letAt (j : Nat) : Nat := lets.cps.toList.getD j 0
theorem let_inj : ∀ a b : Fin 26, letAt a = letAt b → a = b := by decide +kernel
theorem let_in : ∀ a : Fin 26, letAt a ∈ lets.cps.toList := by decide +kernel
def candL (i j : Nat) : List Nat := letAt (j % 26) :: (digL i ++ if j < 26 then [] else [120])
theorem cand_f {i j : Nat} (hi : i < 31) (s : Str) (e : s.cps.toList = candL i j) : NmF s := by
  obtain ⟨_, h2, h3⟩ := dig_ok ⟨i, hi⟩
  refine nmF_cons e (let_in ⟨j % 26, by omega⟩) (fun x hx => ?_) ?_
  · rcases List.mem_append.mp hx with h | h
    · exact h2 x h
    · split at h
      · cases h
      · rw [List.mem_singleton.mp h]; decide +kernel
  · rw [List.length_append]
    have : (if j < 26 then [] else [120] : List Nat).length ≤ 1 := by split <;> decide
    have h3' : (digL i).length ≤ 2 := h3
    omega
theorem resv_let : ∀ s ∈ resv, ∀ c ∈ s.cps.toList, c ∈ lets.cps.toList := by decide +kernel
theorem cand_nr {i j : Nat} (hi : i < 31) (s : Str) (e : s.cps.toList = candL i j) : s ∉ resv := fun hm => by
  obtain ⟨⟨c, r, ec, hc⟩, _⟩ := dig_ok ⟨i, hi⟩
  refine hc (resv_let s hm c ?_)
  rw [e]
  have : digL i = c :: r := ec
  unfold candL
  rw [this]
  exact List.mem_cons_of_mem _ (List.mem_append_left _ List.mem_cons_self)
theorem cand_inj {i j k : Nat} (hj : j < 52) (hk : k < 52) (e : candL i j = candL i k) : j = k := by
  have h1 : letAt (j % 26) = letAt (k % 26) := (List.cons.inj e).1
  have h2 := congrArg List.length (List.cons.inj e).2
  have h3 := congrArg Fin.val (let_inj ⟨j % 26, by omega⟩ ⟨k % 26, by omega⟩ h1)
  have h4 : j % 26 = k % 26 := h3
  rw [List.length_append, List.length_append] at h2
  split at h2 <;> split at h2 <;> simp only [List.length_nil, List.length_cons] at h2 <;> omega
theorem pigeon {α : Type} [BEq α] [LawfulBEq α] : ∀ (xs ys : List α), xs.Nodup → (∀ x ∈ xs, x ∈ ys) → xs.length ≤ ys.length
  | [], _, _, _ => Nat.zero_le _
  | x :: r, ys, hn, h => by
    have hx := h x List.mem_cons_self
    obtain ⟨hnx, hnr⟩ := List.nodup_cons.mp hn
    have ih := pigeon r (ys.erase x) hnr fun y hy => (List.mem_erase_of_ne fun (e : y = x) => hnx (e ▸ hy)).mpr (h y (List.mem_cons_of_mem _ hy))
    rw [List.length_erase_of_mem hx] at ih
    have := List.length_pos_of_mem hx
    rw [List.length_cons]
    omega
/-- of 52 names one is free -/
theorem cand_free {i : Nat} (hi : i < 31) {ss : List Str} (hl : ss.length < 52) (h : ∀ j < 52, ∀ s : Str, s.cps.toList = candL i j → s ∈ ss ∨ s ∈ resv) : False := by
  have hs : ∀ j < 52, candL i j ∈ ss.map fun s => s.cps.toList := fun j hj => by
    have e : ((⟨(candL i j).toArray⟩ : Str)).cps.toList = candL i j := rfl
    rcases h j hj _ e with m | m
    · exact List.mem_map.mpr ⟨_, m, e⟩
    · exact absurd m (cand_nr hi _ e)
  have hn : ((List.range 52).map (candL i)).Nodup := by
    refine List.nodup_iff_pairwise_ne.mpr ?_ |> fun z => z
    rw [List.pairwise_map]
    refine List.Pairwise.imp_of_mem (fun {a b} ha hb hab e => ?_) (List.nodup_iff_pairwise_ne.mp List.nodup_range)
    exact hab (cand_inj (List.mem_range.mp ha) (List.mem_range.mp hb) e)
  have := pigeon _ _ hn fun x hx => by
    obtain ⟨j, hj, rfl⟩ := List.mem_map.mp hx
    exact hs j (List.mem_range.mp hj)
  rw [List.length_map, List.length_map, List.length_range] at this
  omega
theorem cut_x : ∀ j : Fin 52, (cutS (Str.ofString "x") none (some (((j : Nat) : Int) / 26))).cps.toList = (if (j : Nat) < 26 then [] else [120]) := by decide +kernel
structure NmsOk (ss : List Str) : Prop where
  f : ∀ s ∈ ss, NmF s
  r : ∀ s ∈ ss, s ∉ resv
  nd : ss.Nodup
theorem NmsOk.snoc {ss : List Str} {s : Str} (h : NmsOk ss) (hf : NmF s) (hr : s ∉ resv) (hs : s ∉ ss) : NmsOk (ss ++ [s]) where
  f := fun x hx => by
    rcases List.mem_append.mp hx with m | m
    · exact h.f x m
    · rw [List.mem_singleton.mp m]; exact hf
  r := fun x hx => by
    rcases List.mem_append.mp hx with m | m
    · exact h.r x m
    · rw [List.mem_singleton.mp m]; exact hr
  nd := by
    refine List.nodup_append.mpr ⟨h.nd, List.nodup_cons.mpr ⟨(fun m => by cases m), List.nodup_nil⟩, fun a ha b hb e => ?_⟩
    rw [List.mem_singleton.mp hb] at e
    exact hs (e ▸ ha)
theorem inV_iff {l : Str} {xs : List Str} : inV (V.str l) (xs.map V.str) = true ↔ l ∈ xs := by
  unfold inV
  rw [List.any_map, List.any_eq_true]
  constructor
  · rintro ⟨x, hx, h⟩
    have : (x == l) = true := h
    rw [← eq_of_beq this]
    exact hx
  · intro h
    exact ⟨l, h, (beq_self_eq_true l : (l == l) = true)⟩
theorem mem_join0 {S : List Nat} : ∀ (parts : List Str), (∀ p ∈ parts, ∀ c ∈ p.cps.toList, c ∈ S) → ∀ c ∈ (Txt.join (Str.ofString "") parts).cps.toList, c ∈ S := by
  intro parts h c hc
  have e2 := TL.tl_join (Str.ofString "") parts
  rw [← TL.join_eq, show TL.tl (Str.ofString "") = [] by decide +kernel] at e2
  have e3 : (Txt.join (Str.ofString "") parts).cps.toList = TL.joinL [] (parts.map TL.tl) := e2
  rw [e3] at hc
  clear e2 e3
  induction parts with
  | nil => cases hc
  | cons p r ih =>
    cases r with
    | nil => exact h p List.mem_cons_self c hc
    | cons q r =>
      have hc2 : c ∈ TL.tl p ++ ([] ++ TL.joinL [] ((q :: r).map TL.tl)) := hc
      rw [List.nil_append] at hc2
      rcases List.mem_append.mp hc2 with m | m
      · exact h p List.mem_cons_self c m
      · exact ih (fun p hp => h p (List.mem_cons_of_mem _ hp)) m
theorem str_ext {a b : Str} (h : a.cps.toList = b.cps.toList) : a = b := by
  cases a; cases b
  have := Array.toList_inj.mp h
  simp only at this
  rw [this]
/-! ### values and conditions as trees -/
theorem Fd.none {P : Program} {w : World} {K : PySem.W.Frag} {mg : Str → Option Value} {base : Heap} {x qual : Str} {st : Stmt} {f : Addr} {fd : FuncData} {ps : List Str} {k : Nat} {sp : Sp} (F : Fun K x qual st f fd) (m : mg x = some (.ref f)) (b : Binds K fd ps [])
    (no : ∀ vs H Q E, ¬ sp vs H Q E) : Fd P w K mg base x ps k sp := ⟨f, fd, ⟨fun vs H Q E h => absurd h (no vs H Q E), fun A outer s H args us vs Q E _ _ _ _ h => absurd h (no vs H Q E)⟩, m, F.kp, b⟩
theorem yesQ {c : TT} {t u r : TS} {D : Ends} {σ : L2.St} {H : Hp} (h : Ans c σ H true) (q : t { D with nx := r D } σ H) : tSeq (tIfS c t u) r D σ H := ifQ h (fun _ => q) fun z => nomatch z
theorem yesS {c : TT} {t u : TS} {D : Ends} {σ : L2.St} {H : Hp} (h : Ans c σ H true) (q : t D σ H) : tIfS c t u D σ H := ifS h (fun _ => q) fun z => nomatch z
/-- what is new in H' over H -/
def Nw (H H' : Hp) : Hp := fun a => match H a with
  | none => H' a
  | some _ => none
theorem nw_at {H H' : Hp} {a : Addr} (h : H a = none) : Nw H H' a = H' a := by
  unfold Nw
  rw [h]
theorem nw_old {H H' : Hp} {a : Addr} {o : HO} (h : H a = some o) : Nw H H' a = none := by
  unfold Nw
  rw [h]
theorem nw_some {H H' : Hp} {a : Addr} {o : HO} (h : Nw H H' a = some o) : H a = none ∧ H' a = some o := by
  cases e : H a with
  | none => rw [nw_at e] at h; exact ⟨rfl, h⟩
  | some x => rw [nw_old e] at h; cases h
theorem nw_same {H H' : Hp} : Same (Nw H H') H' := fun _ _ h => (nw_some h).2
theorem nw_mono {H H1 H2 H3 : Hp} (a : Same H H1) (b : Same H2 H3) : Same (Nw H1 H2) (Nw H H3) := fun x o h => by
  obtain ⟨h1, h2⟩ := nw_some h
  rw [nw_at (a.free h1)]
  exact b x o h2
/-- what is there is there -/
def Dm (H H' : Hp) : Prop := ∀ a, H' a = none → H a = none
theorem Same.dm {H H' : Hp} (s : Same H H') : Dm H H' := fun _ h => s.free h
theorem Dm.trans {H H1 H2 : Hp} (a : Dm H H1) (b : Dm H1 H2) : Dm H H2 := fun x h => a x (b x h)
theorem dm_upd {H H' : Hp} {D : Addr} {o u : HO} (s : Same H H') (h : H' D = some o) : Dm (upd H D u) H' := fun a ha => by
  have hne : a ≠ D := fun e => by rw [e, h] at ha; cases ha
  rw [upd_ne hne]
  exact s.free ha
theorem dm_up {H : Hp} {D : Addr} {u : HO} : Dm H (upd H D u) := fun a ha => by
  by_cases e : a = D
  · rw [e, upd_same] at ha; cases ha
  · rw [upd_ne e] at ha; exact ha
theorem nw_mono2 {H H1 H2 H3 : Hp} (a : Dm H H1) (b : Same H2 H3) : Same (Nw H1 H2) (Nw H H3) := fun x o h => by
  obtain ⟨h1, h2⟩ := nw_some h
  rw [nw_at (a x h1)]
  exact b x o h2
theorem nw_upd {H H' : Hp} {a : Addr} {o u : HO} (h : H a = some o) : Same (Nw H H') (Nw H (upd H' a u)) := fun x y e => by
  obtain ⟨h1, h2⟩ := nw_some e
  rw [nw_at h1, upd_ne (ne_of_none h h1).symm]
  exact h2
inductive Ar where
  | add | sub | mul
def Ar.tx : Ar → Str
  | .add => Str.ofString "+"
  | .sub => Str.ofString "-"
  | .mul => Str.ofString "*"
def Ar.ev : Ar → Int → Int → Int
  | .add, a, b => a + b
  | .sub, a, b => a - b
  | .mul, a, b => a * b
inductive VT where
  | int (i : Int) | nm (s : Str) | op (o : Ar) (a b : VT)
def VT.ht : VT → Nat
  | .op _ a b => max a.ht b.ht + 1
  | _ => 0
def RVal (H : Hp) : VT → V → Prop
  | .int i, v => v = .int i
  | .nm s, v => v = .str s
  | .op o a b, v => ∃ t x y, v = .ref t ∧ H t = some (.tup [.str o.tx, x, y]) ∧ RVal H a x ∧ RVal H b y
theorem RVal.mono {H H' : Hp} (e : Same H H') : ∀ {t : VT} {v : V}, RVal H t v → RVal H' t v
  | .int _, _, h => h
  | .nm _, _, h => h
  | .op _ _ _, _, ⟨t, x, y, e1, e2, ha, hb⟩ => ⟨t, x, y, e1, e _ _ e2, RVal.mono e ha, RVal.mono e hb⟩
def look (kvs : List (Key × V)) (s : Str) : Int := match valV kvs (Sum.inr s) with
  | some (.int i) => i
  | _ => 0
def VT.ev (kvs : List (Key × V)) : VT → Int
  | .int i => i
  | .nm s => look kvs s
  | .op o a b => o.ev (a.ev kvs) (b.ev kvs)
def VT.wt : VT → Nat
  | .op _ a b => a.wt + b.wt
  | _ => 8
def Fine (kvs : List (Key × V)) : VT → Prop
  | .int i => i.natAbs < 256
  | .nm s => ∃ i : Int, valV kvs (Sum.inr s) = some (.int i) ∧ i.natAbs < 256
  | .op _ a b => Fine kvs a ∧ Fine kvs b
theorem VT.wt_pos : ∀ t : VT, 8 ≤ t.wt
  | .int _ => Nat.le_refl 8
  | .nm _ => Nat.le_refl 8
  | .op _ a b => by show 8 ≤ a.wt + b.wt; have := a.wt_pos; omega
theorem pow_add_le {a b x y : Nat} (ha : x < 2 ^ a) (hb : y < 2 ^ b) (h1 : 1 ≤ a) (h2 : 1 ≤ b) : x + y < 2 ^ (a + b) := by
  have ea : 2 ^ (a + b) = 2 ^ a * 2 ^ b := Nat.pow_add 2 a b
  have h3 : 2 ≤ 2 ^ a := by
    have := Nat.pow_le_pow_right (show 0 < 2 by decide) h1
    omega
  have h4 : 2 ≤ 2 ^ b := by
    have := Nat.pow_le_pow_right (show 0 < 2 by decide) h2
    omega
  generalize 2 ^ a = u at *
  generalize 2 ^ b = v at *
  rw [ea]
  have h5 : u + v ≤ u * v := by
    rcases Nat.le_total u v with h | h
    · have := Nat.mul_le_mul_right v h3
      omega
    · have := Nat.mul_le_mul_left u h4
      omega
  omega
theorem ev_lt {kvs : List (Key × V)} : ∀ {t : VT}, Fine kvs t → (t.ev kvs).natAbs < 2 ^ t.wt
  | .int i, h => h
  | .nm s, ⟨i, e, h⟩ => by
    show (look kvs s).natAbs < 2 ^ 8
    unfold look
    rw [e]
    exact h
  | .op o a b, ⟨ha, hb⟩ => by
    have h1 := ev_lt ha
    have h2 := ev_lt hb
    have p1 := a.wt_pos
    have p2 := b.wt_pos
    have h3 := pow_add_le h1 h2 (by omega) (by omega)
    show (o.ev (a.ev kvs) (b.ev kvs)).natAbs < 2 ^ (a.wt + b.wt)
    cases o with
    | add => show (a.ev kvs + b.ev kvs).natAbs < _; omega
    | sub => show (a.ev kvs - b.ev kvs).natAbs < _; omega
    | mul => exact wide_lt h1 h2
inductive Cp where
  | eq | lt | le
def Cp.tx : Cp → Str
  | .eq => Str.ofString "="
  | .lt => Str.ofString "<"
  | .le => Str.ofString "<="
def Cp.ev : Cp → Int → Int → Bool
  | .eq, a, b => decide (V.int a = V.int b)
  | .lt, a, b => decide (a < b)
  | .le, a, b => decide (a ≤ b)
inductive CT where
  | bl (b : Bool) | no (c : CT) | an (a b : CT) | or (a b : CT) | cp (o : Cp) (a b : VT)
def CT.ht : CT → Nat
  | .bl _ => 0
  | .no c => c.ht + 1
  | .an a b => max a.ht b.ht + 1
  | .or a b => max a.ht b.ht + 1
  | .cp _ _ _ => 0
def RCond (H : Hp) : CT → V → Prop
  | .bl b, v => v = .bl b
  | .no c, v => ∃ t x, v = .ref t ∧ H t = some (.tup [.str (Str.ofString "not"), x]) ∧ RCond H c x
  | .an a b, v => ∃ t x y, v = .ref t ∧ H t = some (.tup [.str (Str.ofString "and"), x, y]) ∧ RCond H a x ∧ RCond H b y
  | .or a b, v => ∃ t x y, v = .ref t ∧ H t = some (.tup [.str (Str.ofString "or"), x, y]) ∧ RCond H a x ∧ RCond H b y
  | .cp o a b, v => ∃ t x y, v = .ref t ∧ H t = some (.tup [.str o.tx, x, y]) ∧ RVal H a x ∧ RVal H b y
theorem RCond.mono {H H' : Hp} (e : Same H H') : ∀ {t : CT} {v : V}, RCond H t v → RCond H' t v
  | .bl _, _, h => h
  | .no _, _, ⟨t, x, e1, e2, ha⟩ => ⟨t, x, e1, e _ _ e2, RCond.mono e ha⟩
  | .an _ _, _, ⟨t, x, y, e1, e2, ha, hb⟩ => ⟨t, x, y, e1, e _ _ e2, RCond.mono e ha, RCond.mono e hb⟩
  | .or _ _, _, ⟨t, x, y, e1, e2, ha, hb⟩ => ⟨t, x, y, e1, e _ _ e2, RCond.mono e ha, RCond.mono e hb⟩
  | .cp _ _ _, _, ⟨t, x, y, e1, e2, ha, hb⟩ => ⟨t, x, y, e1, e _ _ e2, RVal.mono e ha, RVal.mono e hb⟩
def CT.ev (kvs : List (Key × V)) : CT → Bool
  | .bl b => b
  | .no c => !c.ev kvs
  | .an a b => a.ev kvs && b.ev kvs
  | .or a b => a.ev kvs || b.ev kvs
  | .cp o a b => o.ev (a.ev kvs) (b.ev kvs)
/-- every value in it is fine, of height below n and of weight at most m -/
def CFine (kvs : List (Key × V)) (n m : Nat) : CT → Prop
  | .bl _ => True
  | .no c => CFine kvs n m c
  | .an a b => CFine kvs n m a ∧ CFine kvs n m b
  | .or a b => CFine kvs n m a ∧ CFine kvs n m b
  | .cp _ a b => (Fine kvs a ∧ a.ht < n ∧ a.wt ≤ m) ∧ Fine kvs b ∧ b.ht < n ∧ b.wt ≤ m
section
variable {P : Program} {w : World} {K : PySem.W.Frag} {mg : Str → Option Value} {base : Heap}
abbrev s_law_cell : Stmt := topS 12
theorem sc_law_cell : FnScope ["script", "k"] ["script", "k"] (defScope s_law_cell) := ⟨rfl, rfl, rfl, by decide +kernel, rfl, by decide +kernel, by decide +kernel⟩
-- _law_cell slots: script=0 k=1 globals: len int
def spCellA (K : PySem.W.Frag) : Sp := fun vs H Q _ => ∃ (a : Addr) (ns : List Int) (k : Nat), vs = [.ref a, .int (k : Int)] ∧ SqL K H a (ns.map V.int) ∧ ∀ z : Int, Q (.int z) H
theorem fd_law_cell {f : Addr} {fd : FuncData} (F : Fun K "_law_cell" "_law_cell" s_law_cell f fd) (m : mg "_law_cell" = some (.ref f)) (B : Bt mg) : Fd P w K mg base "_law_cell" ["script", "k"] 1 (spCellA K) := by
  refine ⟨f, fd, F.ok sc_law_cell (fun vs H Q E h => ?_) (fun cdv A outer s H vs Q E hr h => ?_), m, F.kp, F.binds (ps := ["script", "k"]) fun _ _ _ _ _ _ us hl => match us, hl with | [_, _], _ => rfl⟩
  · obtain ⟨a, ns, k, rfl, _⟩ := h
    rfl
  obtain ⟨a, ns, k, rfl, hs, q⟩ := h
  refine ⟨_, (pss_cons (ps_if (pt_cmpR op_lt (pv 1) (pe_callB (cLen K) (by rfl) B.len PySem.boot_len (pa_cons (pv 0) pa_nil)) (nomark _))
 (pss_one (ps_ret (pe_callTy call_int1 (by rfl) B.int (by decide +kernel) (pa_cons (pe_ix (ixQ K) (pv 0) (pv 1) (fun _ _ => rfl)) pa_nil))))
 pss_nil)
 (pss_one (ps_ret pe_int))), ?_⟩
  refine ⟨_, rfl, _, rfl, a, _, rfl, .inl hs, _, _, rfl, rfl, _, rfl, ite2 (fun e => ?_) (fun e => ?_)⟩
  · have e1 := of_decide_eq_true e
    rw [List.length_map] at e1
    have e2 : k < ns.length := by omega
    refine ⟨_, rfl, _, rfl, .inl ⟨a, _, _, _, rfl, rfl, hs, atI_nat (get_map (List.getElem?_eq_getElem e2)), .inl ⟨_, rfl, q _⟩⟩⟩
  · exact q _
end
section
variable {P : Program} {w : World} {K : PySem.W.Frag} {mg : Str → Option Value} {base : Heap}
abbrev s_law_draws : Stmt := topS 13
theorem sc_law_draws : FnScope ["cell", "limits", "found", "rest", "state", "free", "limit"] ["cell", "limits"] (defScope s_law_draws) := ⟨rfl, rfl, rfl, by decide +kernel, rfl, by decide +kernel, by decide +kernel⟩
-- _law_draws slots: cell=0 limits=1 found=2 rest=3 state=4 free=5 limit=6 globals: abs int
def spDraws (K : PySem.W.Frag) : Sp := fun vs H Q _ => ∃ (a : Addr) (c : Int) (ms : List Int), vs = [.int c, .ref a] ∧ SqL K H a (ms.map V.int) ∧ (∀ m ∈ ms, 0 < m ∧ m < 1073741824) ∧ ms.length ≤ 1000 ∧
  ∀ H' p ds, Same H H' → H p = none → H' p = some (.lst (ds.map V.int)) → DOk ds ms → Q (.ref p) H'
/-- the loop's word -/
def DrI (H : Hp) (a o : Addr) (c : Int) (fr : Bool) (ms : List Int) (i : Nat) (σ' : L2.St) (H' : Hp) : Prop := ∃ (r s0 : Int) (y : Option V) (ds : List Int), σ' = [some (.int c), some (.ref a), some (.ref o), some (.int r), some (.int s0), some (.bl fr), y] ∧
    0 ≤ s0 ∧ s0 < 2147483647 ∧ Same H H' ∧ H' o = some (.lst (ds.map V.int)) ∧ DOk ds (ms.take i)
theorem fd_law_draws {f : Addr} {fd : FuncData} (F : Fun K "_law_draws" "_law_draws" s_law_draws f fd) (m : mg "_law_draws" = some (.ref f)) (B : Bt mg) : Fd P w K mg base "_law_draws" ["cell", "limits"] 1 (spDraws K) := by
  refine ⟨f, fd, F.ok sc_law_draws (fun vs H Q E h => ?_) (fun cdv A outer s H vs Q E hr h => ?_), m, F.kp, F.binds (ps := ["cell", "limits"]) fun _ _ _ _ _ _ us hl => match us, hl with | [_, _], _ => rfl⟩
  · obtain ⟨a, c, ms, rfl, _⟩ := h
    rfl
  obtain ⟨a, c, ms, rfl, hs, hm, hl, q⟩ := h
  refine ⟨_, (pss_cons (ps_set (i := 2) sc_law_draws.nd rfl (Or.inl rfl) (pe_lst pa_nil))
 (pss_cons (ps_set (i := 3) sc_law_draws.nd rfl (Or.inl rfl) (pe_callB call_abs (by rfl) B.abs (by decide +kernel) (pa_cons (pe_callTy call_int1 (by rfl) B.int (by decide +kernel) (pa_cons (pv 0) pa_nil)) pa_nil)))
 (pss_cons (ps_set (i := 4) sc_law_draws.nd rfl (Or.inl rfl) (pe_op op_mod (pe_callTy call_int1 (by rfl) B.int (by decide +kernel) (pa_cons (pv 3) pa_nil)) pe_int))
 (C8.pss_cut (ps_set (i := 5) sc_law_draws.nd rfl (Or.inl rfl) (pe_or (pe_cmpR op_lt (pv 0) pe_int (nomark _)) (pe_one (pe_cmpR op_ge (pv 0) (pe_op op_pow pe_int pe_int) (nomark _)))))
 (pss_cons (ps_for PassesOwn.never rfl (piL K (pv 1)) (pg_name (i := 6) sc_law_draws.nd rfl (Or.inl rfl))
 (pss_one (ps_if (PW.pt (pw_and (pt_val (pv 5)) (pw_and1 (pt_cmpR op_gt (pv 3) pe_int (nomark _)))))
 (pss_cons (ps_expr (peBm K PySem.F.plainAttrs_list PySem.F.slot_list_append PySem.F.type_list_append mt_append (pv 2) (pa_cons (pe_op op_mod (pe_callTy call_int1 (by rfl) B.int (by decide +kernel) (pa_cons (pv 3) pa_nil)) (pv 6)) pa_nil)))
 (pss_one (ps_set (i := 3) sc_law_draws.nd rfl (Or.inl rfl) (pe_op op_fdiv (pv 3) (pv 6)))))
 (pss_cons (ps_set (i := 4) sc_law_draws.nd rfl (Or.inl rfl) (pe_op op_mod (pe_callTy call_int1 (by rfl) B.int (by decide +kernel) (pa_cons (pe_op op_add (pe_op op_mul (pv 4) pe_int) pe_int) pa_nil)) pe_int))
 (pss_cons (ps_set (i := 4) sc_law_draws.nd rfl (Or.inl rfl) (pe_op op_mod (pe_callTy call_int1 (by rfl) B.int (by decide +kernel) (pa_cons (pe_op op_add (pe_op op_mul (pv 4) pe_int) pe_int) pa_nil)) pe_int))
 (pss_one (ps_expr (peBm K PySem.F.plainAttrs_list PySem.F.slot_list_append PySem.F.type_list_append mt_append (pv 2) (pa_cons (pe_op op_mod (pe_callTy call_int1 (by rfl) B.int (by decide +kernel) (pa_cons (pe_op op_fdiv (pv 4) pe_int) pa_nil)) (pv 6)) pa_nil)))))))))
 (pss_one (ps_ret (pv 2)))))))), ?_⟩
  refine ⟨sz (by decide), fun o no => ?_⟩
  refine ⟨_, rfl, .inl ⟨_, rfl, _, rfl, ?_⟩⟩
  refine ⟨_, rfl, .inl ⟨_, rfl, _, _, rfl, rfl, (by show (0 : Int) < 2147483647; decide), ?_⟩⟩
  generalize e1 : (if c < 0 then -c else c) = r0
  refine ⟨fun σ' H' => ∃ (fr : Bool), σ' = [some (.int c), some (.ref a), some (.ref o), some (.int r0), some (.int (r0 % 2147483647)), some (.bl fr), none] ∧ H' = upd H o (.lst []), ?_, fun σ' H' => ?_⟩
  · refine ⟨_, rfl, _, _, rfl, rfl, _, rfl, ite2 (fun e => ⟨true, rfl, rfl⟩) (fun e => ?_)⟩
    refine ⟨_, rfl, _, _, rfl, rfl, ⟨by decide, by decide, by decide⟩, _, _, rfl, rfl, ⟨_, rfl, rfl⟩⟩
  rintro ⟨fr, rfl, rfl⟩
  refine ⟨_, rfl, a, rfl, ⟨_, (same_new no).seq hs⟩, for_list (xs := ms.map V.int) (DrI H a o c fr ms) ?_ ?_ ?_ ?_⟩
  · exact ⟨r0, _, none, [], rfl, Int.emod_nonneg _ (by decide), Int.emod_lt_of_pos _ (by decide), same_new no, upd_same, trivial⟩
  · rintro i σ' H' _ ⟨r, s0, y, ds, rfl, _, _, sm, _⟩
    exact sm.seq hs
  · rintro i x σ' H' hx ⟨r, s0, y, ds, rfl, h0, h1, sm, eo, hd⟩
    obtain ⟨lim, hlim, rfl⟩ := get_map_inv hx
    have hb := hm lim (List.mem_of_getElem? hlim)
    have hi2 : i < ms.length := (List.getElem?_eq_some_iff.mp hlim).1
    have hdl := hd.len
    rw [List.length_take] at hdl
    have dl : (ds.map V.int).length < sizeLine := szl (by rw [List.length_map]; omega)
    have fin : ∀ (r1 s1 d : Int), 0 ≤ s1 → s1 < 2147483647 → 0 ≤ d → d < lim → DrI H a o c fr ms (i + 1) [some (V.int c), some (.ref a), some (.ref o), some (.int r1), some (.int s1), some (.bl fr), some (.int lim)] (upd H' o (.lst (ds.map V.int ++ [.int d]))) := fun r1 s1 d a1 a2 a3 a4 =>
      ⟨r1, s1, _, ds ++ [d], rfl, a1, a2, Same.mut sm no, by rw [upd_same, List.map_append]; rfl, by rw [take_snoc hlim]; exact hd.snoc a3 a4⟩
    have no1 : ∀ z : Int, 0 ≤ z % lim ∧ z % lim < lim := fun z => ⟨Int.emod_nonneg _ (by omega), Int.emod_lt_of_pos _ (by omega)⟩
    have els : ∀ (r1 s1 : Int), True := fun _ _ => trivial
    refine ⟨_, rfl, fr, rfl, ?_⟩
    cases fr with
    | true =>
      refine iteT ⟨_, rfl, _, _, rfl, rfl, _, rfl, ite2 (fun e => ?_) (fun e => ?_)⟩
      · refine ⟨_, rfl, .inl ⟨rfl, _, sq eo⟩, _, rfl, .inl ⟨_, rfl, _, rfl, _, _, rfl, rfl, hb.1, o, _, _, rfl, rfl, eo, dl, ?_⟩⟩
        refine ⟨_, rfl, _, rfl, _, _, rfl, rfl, ⟨hb.1, hb.2⟩, ?_⟩
        exact fin _ _ _ h0 h1 (no1 r).1 (no1 r).2
      · refine ⟨_, rfl, _, _, rfl, rfl, .inl ⟨by omega, by omega⟩, _, _, rfl, rfl, .inl ⟨_, rfl, _, _, rfl, rfl, (by show (0 : Int) < 2147483647; decide), ?_⟩⟩
        have b1 := Int.emod_nonneg (s0 * 48271 + 11) (show (2147483647 : Int) ≠ 0 by decide)
        have b2 := Int.emod_lt_of_pos (s0 * 48271 + 11) (show (0 : Int) < 2147483647 by decide)
        refine ⟨_, rfl, _, _, rfl, rfl, .inl ⟨by omega, by omega⟩, _, _, rfl, rfl, .inl ⟨_, rfl, _, _, rfl, rfl, (by show (0 : Int) < 2147483647; decide), ?_⟩⟩
        refine ⟨_, rfl, .inl ⟨rfl, _, sq eo⟩, _, rfl, _, _, rfl, rfl, ⟨by decide, by decide⟩, .inl ⟨_, rfl, _, rfl, _, _, rfl, rfl, hb.1, o, _, _, rfl, rfl, eo, dl, ?_⟩⟩
        exact fin _ _ _ (Int.emod_nonneg _ (by decide)) (Int.emod_lt_of_pos _ (by decide)) (no1 _).1 (no1 _).2
    | false =>
      refine iteF ?_
      refine ⟨_, rfl, _, _, rfl, rfl, .inl ⟨by omega, by omega⟩, _, _, rfl, rfl, .inl ⟨_, rfl, _, _, rfl, rfl, (by show (0 : Int) < 2147483647; decide), ?_⟩⟩
      have b1 := Int.emod_nonneg (s0 * 48271 + 11) (show (2147483647 : Int) ≠ 0 by decide)
      have b2 := Int.emod_lt_of_pos (s0 * 48271 + 11) (show (0 : Int) < 2147483647 by decide)
      refine ⟨_, rfl, _, _, rfl, rfl, .inl ⟨by omega, by omega⟩, _, _, rfl, rfl, .inl ⟨_, rfl, _, _, rfl, rfl, (by show (0 : Int) < 2147483647; decide), ?_⟩⟩
      refine ⟨_, rfl, .inl ⟨rfl, _, sq eo⟩, _, rfl, _, _, rfl, rfl, ⟨by decide, by decide⟩, .inl ⟨_, rfl, _, rfl, _, _, rfl, rfl, hb.1, o, _, _, rfl, rfl, eo, dl, ?_⟩⟩
      exact fin _ _ _ (Int.emod_nonneg _ (by decide)) (Int.emod_lt_of_pos _ (by decide)) (no1 _).1 (no1 _).2
  · rintro σ' H' ⟨r, s0, y, ds, rfl, h0, h1, sm, eo, hd⟩
    rw [List.length_map, List.take_length] at hd
    exact ⟨_, rfl, q H' o ds sm no eo hd⟩
end
section
variable {P : Program} {w : World} {K : PySem.W.Frag} {mg : Str → Option Value} {base : Heap}
abbrev s_law_names : Stmt := topS 14
theorem sc_law_names : FnScope ["cell", "count", "reserved", "letters", "signs", "names", "k", "draws", "size", "j", "name"] ["cell", "count"] (defScope s_law_names) := ⟨rfl, rfl, rfl, by decide +kernel, rfl, by decide +kernel, by decide +kernel⟩
-- _law_names slots: cell=0 count=1 reserved=2 letters=3 signs=4(cell) names=5 k=6 draws=7(cell) size=8 j=9 name=10 globals: range _law_draws int min str
def spNames (K : PySem.W.Frag) : Sp := fun vs H Q _ => ∃ (c z : Int) (n : Nat), vs = [.int c, .int z] ∧ z = (n : Int) ∧ n ≤ 30 ∧
  ∀ H' p (ss : List Str), Same H H' → H p = none → H' p = some (.lst (ss.map V.str)) → ss.length = n → NmsOk ss → Q (.ref p) H'
def NmI (H : Hp) (c : Int) (n : Nat) (lt sg : Str) (rs : List V) (pr o : Addr) (i : Nat) (σ' : L2.St) (H' : Hp) : Prop :=
  ∃ (y6 y7 y8 y9 y10 : Option V) (ss : List Str), σ' = [some (.int c), some (.int (n : Int)), some (.ref pr), some (.str lt), some (.str sg), some (.ref o), y6, y7, y8, y9, y10] ∧
    Same H H' ∧ H' pr = some (.lst rs) ∧ H' o = some (.lst (ss.map V.str)) ∧ ss.length = i ∧ NmsOk ss
theorem fd_law_names {f : Addr} {fd : FuncData} (F : Fun K "_law_names" "_law_names" s_law_names f fd) (m : mg "_law_names" = some (.ref f)) (B : Bt mg) (D_law_draws : Fd P w K mg base "_law_draws" ["cell", "limits"] 1 (spDraws K)) :
    Fd P w K mg base "_law_names" ["cell", "count"] 2 (spNames K) := by
  refine ⟨f, fd, F.ok sc_law_names (fun vs H Q E h => ?_) (fun cdv A outer s H vs Q E hr h => ?_), m, F.kp, F.binds (ps := ["cell", "count"]) fun _ _ _ _ _ _ us hl => match us, hl with | [_, _], _ => rfl⟩
  · obtain ⟨c, z, n, rfl, _⟩ := h
    rfl
  obtain ⟨c, _, n, rfl, rfl, hn, q⟩ := h
  refine ⟨_, (pss_cons (ps_set (i := 2) sc_law_names.nd rfl (Or.inl rfl) (pe_lst (pa_cons pe_str (pa_cons pe_str (pa_cons pe_str (pa_cons pe_str (pa_cons pe_str (pa_cons pe_str (pa_cons pe_str (pa_cons pe_str (pa_cons pe_str (pa_cons pe_str (pa_cons pe_str (pa_cons pe_str (pa_cons pe_str pa_nil)))))))))))))))
 (pss_cons (ps_set (i := 2) sc_law_names.nd rfl (Or.inl rfl) (pe_op (opCat K) (pv 2) (pe_lst (pa_cons pe_str (pa_cons pe_str (pa_cons pe_str (pa_cons pe_str (pa_cons pe_str (pa_cons pe_str (pa_cons pe_str (pa_cons pe_str (pa_cons pe_str (pa_cons pe_str (pa_cons pe_str pa_nil))))))))))))))
 (pss_cons (ps_set (i := 3) sc_law_names.nd rfl (Or.inl rfl) pe_str)
 (pss_cons (ps_set (i := 4) sc_law_names.nd rfl (Or.inr rfl) (pe_op op_add_str (pv 3) pe_str))
 (pss_cons (ps_set (i := 5) sc_law_names.nd rfl (Or.inl rfl) (pe_lst pa_nil))
 (pss_cons (ps_for PassesOwn.never rfl (pi_range1 rfl B.range (pa_cons (pv 1) pa_nil)) (pg_name (i := 6) sc_law_names.nd rfl (Or.inl rfl))
 (pss_cons (ps_set (i := 7) sc_law_names.nd rfl (Or.inr rfl) (pe_fn D_law_draws (hr.mono (by decide)) rfl (pa_cons (pe_op op_add (pe_op op_fdiv (pe_callTy call_int1 (by rfl) B.int (by decide +kernel) (pa_cons (pv 0) pa_nil)) pe_int) (pe_op op_mul pe_int (pv 6))) (pa_cons (pe_op (opCat K) (pe_lst (pa_cons pe_int (pa_cons pe_int pa_nil))) (pe_op op_rep (pe_lst (pa_cons pe_int pa_nil)) pe_int)) pa_nil))))
 (pss_cons (ps_set (i := 8) sc_law_names.nd rfl (Or.inl rfl) (pe_ix (ixL K) (pe_lst (pa_cons pe_int (pa_cons pe_int (pa_cons pe_int (pa_cons pe_int (pa_cons pe_int (pa_cons pe_int (pa_cons pe_int (pa_cons pe_int pa_nil))))))))) (pe_ix (ixL K) (pv 7) pe_int (fun _ _ => rfl)) (fun _ _ => rfl)))
 (C8.pss_cut (ps_if (PW.pt (pw_and (pt_cmpR op_lt (pv 6) pe_int (nomark _)) (pw_and1 (pt_cmpR op_gt (pv 1) pe_int (nomark _)))))
 (pss_one (ps_set (i := 8) sc_law_names.nd rfl (Or.inl rfl) (pe_callB (call_min2 rfl) (by rfl) B.min (by decide +kernel) (pa_cons (pv 8) (pa_cons pe_int pa_nil)))))
 pss_nil)
 (pss_cons (ps_set (i := 10) sc_law_names.nd rfl (Or.inl rfl) (pe_op op_add_str (pe_ix ix_str (pv 3) (pe_ix (ixL K) (pv 7) pe_int (fun _ _ => rfl)) (fun _ _ => rfl)) (pe_join pe_str (pe_lc (own := [("j", 9)]) (g := gName 9) (by rfl) sc_law_names.nd (pi_range1 rfl B.range (pa_cons (pe_op op_sub (pv 8) pe_int) pa_nil)) (blkOk_by (own := [("j", 9)]) (N := ["cell", "count", "reserved", "letters", "signs", "names", "k", "draws", "size", "j", "name"]) (sc := (defScope s_law_names)) (by decide +kernel)) (fun _ _ _ _ _ => (pg_name (i := 9) sc_law_names.nd rfl (Or.inl rfl))) (fun _ _ _ _ _ => pts_nil) (fun _ _ _ _ _ => (pe_ix ix_str (pv 4) (pe_ix (ixL K) (pv 7) (pe_op op_add pe_int (pv 9)) (fun _ _ => rfl)) (fun _ _ => rfl)))))))
 (C8.pss_cut (ps_if (pt_cmpR op_eq (pe_ix (ixL K) (pv 7) pe_int (fun _ _ => rfl)) pe_int (nomark _))
 (pss_one (ps_set (i := 10) sc_law_names.nd rfl (Or.inl rfl) (pe_ix (ixL K) (pe_lst (pa_cons pe_str (pa_cons pe_str (pa_cons pe_str (pa_cons pe_str pa_nil))))) (pe_op op_and (pe_callTy call_int1 (by rfl) B.int (by decide +kernel) (pa_cons (pe_ix (ixL K) (pv 7) pe_int (fun _ _ => rfl)) pa_nil)) pe_int) (fun _ _ => rfl))))
 pss_nil)
 (pss_cons (ps_for PassesOwn.never rfl (pi_range1 rfl B.range (pa_cons pe_int pa_nil)) (pg_name (i := 9) sc_law_names.nd rfl (Or.inl rfl))
 (pss_one (ps_if (PW.pt (pw_or (pt_cmpR (opIn K) (pv 10) (pv 5) (by rfl)) (pw_or1 (pt_cmpR (opIn K) (pv 10) (pv 2) (by rfl)))))
 (pss_one (ps_set (i := 10) sc_law_names.nd rfl (Or.inl rfl) (pe_op op_add_str (pe_op op_add_str (pe_ix ix_str (pv 3) (pe_op op_mod (pe_callTy call_int1 (by rfl) B.int (by decide +kernel) (pa_cons (pv 9) pa_nil)) pe_int) (fun _ _ => rfl)) (pe_callTy call_str_int (by rfl) B.str (by decide +kernel) (pa_cons (pv 6) pa_nil))) (pe_slice sl_str pe_str po_none (po_some (pe_op op_fdiv (pv 9) pe_int))))))
 pss_nil)))
 (pss_one (ps_expr (peBm K PySem.F.plainAttrs_list PySem.F.slot_list_append PySem.F.type_list_append mt_append (pv 5) (pa_cons (pv 10) pa_nil)))))))))))
 (pss_one (ps_ret (pv 5))))))))), ?_⟩
  refine ⟨sz (by decide), fun p1 n1 => ?_⟩
  refine ⟨_, rfl, sz (by decide), fun p2 n2 => ⟨_, _, _, _, rfl, rfl, sq (same_new n2 _ _ upd_same), sq upd_same, sz (by decide), fun pr nr => ?_⟩⟩
  generalize hrs : ([V.str (Str.ofString "share"), _, _, _, _, _, _, _, _, _, _, _, _] ++ _ : List V) = rs
  refine ⟨_, rfl, _, _, rfl, rfl, sz (by decide), ?_⟩
  refine ⟨sz (by decide), fun o no => ?_⟩
  have hrv : rs = resv.map V.str := by rw [← hrs]; rfl
  have hflat : rs.all flatV = true := by rw [hrv]; exact flat_strs _
  have sm0 : Same H (upd (upd (upd H p1 _) p2 _) pr (.lst rs)) := ((same_new n1).trans (same_new n2)).trans (same_new nr)
  have ono : H o = none := sm0.free no
  have prno : H pr = none := ((same_new n1).trans (same_new n2)).free nr
  have opr : pr ≠ o := fun e => by rw [← e, upd_same] at no; cases no
  refine ⟨_, rfl, n, rfl, by omega, by omega, for_range (lo := 0) (n := ((n : Nat) : Int).toNat) (NmI H c n (Str.ofString "abcdefghijklmnopqrstuvwxyz") (Str.ofString "abcdefghijklmnopqrstuvwxyz" ++ Str.ofString "0123456789") rs pr o) ?_ ?_ ?_⟩
  · refine ⟨none, none, none, none, none, [], rfl, sm0.trans (same_new no), by rw [upd_ne opr, upd_same], upd_same, rfl, ⟨(fun s hs => by cases hs), (fun s hs => by cases hs), List.nodup_nil⟩⟩
  · rintro i σ' H' hi ⟨y6, y7, y8, y9, y10, ss, rfl, sm, er, eo, hl, hsz⟩
    have hi2 : i < n := by omega
    have hz : (0 : Int) + (i : Int) = (i : Int) := by omega
    refine ⟨_, rfl, .inl ⟨_, rfl, _, _, rfl, rfl, ⟨by decide, by decide⟩, _, rfl, _, _, rfl, rfl, .inl ⟨by decide, by decide⟩, _, _, rfl, rfl, ?_⟩⟩
    refine ⟨sz (by decide), fun q1 m1 => ⟨sz (by decide), fun q2 m2 => ⟨_, _, _, rfl, rfl, upd_same, by decide, by decide, sz (by decide), fun q3 m3 => ⟨_, _, _, _, rfl, rfl, sq (same_new m3 _ _ (same_new m2 _ _ upd_same)), sq upd_same, sz (by decide), fun q4 m4 => ?_⟩⟩⟩⟩
    refine ⟨q4, _, 8 :: 26 :: List.replicate 19 36, rfl, sq (upd_same (o := HO.lst (List.map V.int (8 :: 26 :: List.replicate 19 36)))), by decide, by decide, fun H1 pd ds s1 nd ed dk => ?_⟩
    have sm1 : Same H' H1 := (((same_new m1).trans (same_new m2)).trans (same_new m3)).trans (same_new m4) |>.trans s1
    clear s1 nd m4 m3 m2 m1
    obtain ⟨d0, r0, rfl, a0, a1, dk1⟩ := dk.cons
    obtain ⟨d1, r1, rfl, b0, b1, dk2⟩ := dk1.cons
    have er1 := sm1 _ _ er
    have eo1 := sm1 _ _ eo
    -- size
    obtain ⟨v0, g0, w0⟩ := atI_map (f := V.int) (xs := [1, 1, 2, 2, 3, 6, 4, 20]) a0 (by show d0 < 8; exact a1)
    refine ⟨sz (by decide), fun q5 m5 => ⟨_, rfl, _, _, _, _, rfl, rfl, (same_new m5).seq (sq ed), atI_nat (j := 0) rfl, _, _, _, _, rfl, rfl, sq upd_same, g0, ?_⟩⟩
    have sm2 := same_new (o := HO.lst ([V.int 1, V.int 1, V.int 2, V.int 2, V.int 3, V.int 6, V.int 4, V.int 20])) m5
    have hv0 : 1 ≤ v0 ∧ v0 ≤ 20 := by
      have : ∀ z ∈ ([1, 1, 2, 2, 3, 6, 4, 20] : List Int), 1 ≤ z ∧ z ≤ 20 := by decide
      exact this v0 w0.1
    generalize hH2 : upd H1 q5 _ = H2 at sm2
    have ed2 := sm2 _ _ ed
    have er2 := sm2 _ _ er1
    have eo2 := sm2 _ _ eo1
    refine ⟨fun σ' H3 => ∃ z : Int, 1 ≤ z ∧ z ≤ 20 ∧ σ' = [some (.int c), some (.int (n : Int)), some (.ref pr), some (.str (Str.ofString "abcdefghijklmnopqrstuvwxyz")), some (.str (Str.ofString "abcdefghijklmnopqrstuvwxyz" ++ Str.ofString "0123456789")), some (.ref o), some (.int (0 + (i : Int))), some (.ref pd), some (.int z), y9, y10] ∧ H2 = H3, ?_, fun σ' H3 => ?_⟩
    · refine ifS (b := _) (ansAnd (fun Q q => ⟨_, rfl, _, _, rfl, rfl, _, rfl, q⟩) (fun Q q => ⟨_, rfl, _, _, rfl, rfl, _, rfl, q⟩)) (fun _ => ?_) (fun _ => ⟨v0, hv0.1, hv0.2, rfl, rfl⟩)
      refine ⟨_, rfl, _, _, rfl, _, ?_, ?_, rfl, rfl⟩
      · split <;> omega
      · split <;> omega
    rintro ⟨z, z1, z2, rfl, rfl⟩
    clear hH2 g0 w0 hv0 m5
    have lt1 : (Str.ofString "abcdefghijklmnopqrstuvwxyz").cps.toList.length = 26 := by decide +kernel
    have sg1 : (Str.ofString "abcdefghijklmnopqrstuvwxyz" ++ Str.ofString "0123456789").cps.toList.length = 36 := by decide +kernel
    have lt2 : (Str.ofString "abcdefghijklmnopqrstuvwxyz").length ≤ sizeLine := sz (by decide +kernel)
    have sg2 : (Str.ofString "abcdefghijklmnopqrstuvwxyz" ++ Str.ofString "0123456789").length ≤ sizeLine := sz (by decide +kernel)
    have sgE : Str.ofString "abcdefghijklmnopqrstuvwxyz" ++ Str.ofString "0123456789" = sgns := by decide +kernel
    have ltE : Str.ofString "abcdefghijklmnopqrstuvwxyz" = lets := rfl
    generalize Str.ofString "abcdefghijklmnopqrstuvwxyz" ++ Str.ofString "0123456789" = sg at sg1 sg2 sgE ⊢
    generalize Str.ofString "abcdefghijklmnopqrstuvwxyz" = lt at lt1 lt2 ltE ⊢
    -- name
    obtain ⟨ch, gc, hch⟩ := atI_in (xs := lt.cps.toList) (i := d1) b0 (by rw [lt1]; exact b1)
    refine ⟨_, rfl, _, rfl, _, _, _, _, rfl, rfl, sq ed2, atI_nat (j := 1) rfl, _, _, _, rfl, rfl, lt2, gc, ?_⟩
    refine ⟨⟨_, rfl⟩, _, rfl, _, _, rfl, rfl, _, rfl, by omega, by omega, fun D nD => ?_⟩
    have lenz : (z - 1).toNat + 1 ≤ 20 := by omega
    refine lc_range (lo := 0) (n := (z - 1).toNat) (fun k H3 => ∃ ps : List Str, ps.length = k ∧ (∀ p ∈ ps, p.length = 1 ∧ ∀ c ∈ p.cps.toList, c ∈ sgns.cps.toList) ∧ Same H2 H3 ∧ H3 D = some (.lst (ps.map V.str))) ?_ ?_ ?_
    · exact ⟨[], rfl, (fun p hp => by cases hp), same_new nD, upd_same⟩
    · rintro k H3 hk ⟨ps, pl, p1, s3, e3⟩
      obtain ⟨dj, gj, j0, j1⟩ := dk.at (i := 2 + k) (m := 36) (by
        rw [Nat.add_comm]
        show (List.replicate 19 (36 : Int))[k]? = some 36
        rw [List.getElem?_replicate_of_lt (by omega)])
      obtain ⟨cj, gcj, hcj⟩ := atI_in (xs := sg.cps.toList) (i := dj) j0 (by rw [sg1]; exact j1)
      refine ⟨rfl, _, rfl, _, rfl, _, rfl, _, _, rfl, rfl, _, _, _, _, rfl, rfl, sq (s3 _ _ ed2), at_of (j := 2 + k) (by omega) (get_map gj), _, _, _, rfl, rfl, sg2, gcj, _, e3, ?_, ps ++ [⟨#[cj]⟩], ?_, ?_, Same.mut s3 nD, ?_⟩
      · rw [List.length_map]
        exact szl (by omega)
      · rw [List.length_append, pl]; rfl
      · intro p hp
        rcases List.mem_append.mp hp with h | h
        · exact p1 p h
        · rw [List.mem_singleton.mp h]
          refine ⟨rfl, fun c hc => ?_⟩
          rw [List.mem_singleton.mp (show c ∈ [cj] from hc), ← sgE]
          exact hcj
      · rw [upd_same, List.map_append]; rfl
    · rintro H3 ⟨ps, pl, p1p, s3, e3⟩
      have p1 : ∀ p ∈ ps, p.length = 1 := fun p hp => (p1p p hp).1
      have jl := len_join0 ps p1
      have jm := mem_join0 (S := sgns.cps.toList) ps fun p hp => (p1p p hp).2
      refine ⟨_, D, ps, rfl, rfl, .inl (sq e3), ?_, ?_⟩
      · rw [sum_ones p1, show (Str.ofString "").length = 0 by decide +kernel]
        omega
      refine ⟨_, _, rfl, rfl, ?_, ?_⟩
      · rw [jl]
        exact sz (by show 1 + ps.length ≤ 100000; omega)
      generalize hnm : (⟨#[ch]⟩ : Str) ++ Txt.join (Str.ofString "") ps = nm
      have nml : NmF nm := by
        have e : nm.cps.toList = ch :: (Txt.join (Str.ofString "") ps).cps.toList := by
          rw [← hnm, str_app]
          rfl
        refine nmF_cons e (by rw [← ltE]; exact hch) jm ?_
        rw [str_len, jl]
        omega
      have ed3 := s3 _ _ ed2
      have er3 := s3 _ _ er2
      have eo3 := s3 _ _ eo2
      have sm3 : Same H H3 := ((sm.trans sm1).trans sm2).trans s3
      clear hnm jl jm gc e3 p1 p1p pl nD ps
      -- if draws[0] == 6
      refine ⟨fun σ' H4 => ∃ nm : Str, NmF nm ∧ σ' = [some (.int c), some (.int (n : Int)), some (.ref pr), some (.str lt), some (.str sg), some (.ref o), some (.int (0 + (i : Int))), some (.ref pd), some (.int z), y9, some (.str nm)] ∧ Same H3 H4, ?_, fun σ' H4 => ?_⟩
      · refine ifS (b := _) (fun Q q => ⟨_, rfl, _, _, _, _, rfl, rfl, sq ed3, atI_nat (j := 0) rfl, rfl, _, rfl, q⟩) (fun _ => ?_) (fun _ => ⟨nm, nml, rfl, Same.refl _⟩)
        have ba : Builtin.bitAnd d1 3 = d1 % 4 := Bits.bitAnd_mask 2 b0
        obtain ⟨v4, g4, w4⟩ := atI_in (xs := [V.str (Str.ofString "true"), V.str (Str.ofString "false"), V.str (Str.ofString "ends"), V.str (Str.ofString "kinds")]) (i := d1 % 4) (by omega) (by show d1 % 4 < 4; omega)
        refine ⟨sz (by decide), fun q6 m6 => ⟨_, rfl, _, _, _, _, rfl, rfl, (same_new m6).seq (sq ed3), atI_nat (j := 1) rfl, .inl ⟨_, rfl, _, _, rfl, rfl, _, _, _, _, rfl, rfl, sq upd_same, (by rw [ba]; exact g4), ?_⟩⟩⟩
        have : ∀ v ∈ [V.str (Str.ofString "true"), V.str (Str.ofString "false"), V.str (Str.ofString "ends"), V.str (Str.ofString "kinds")], ∃ s : Str, v = .str s ∧ NmF s := by
          intro v hv
          simp only [List.mem_cons, List.not_mem_nil, or_false] at hv
          rcases hv with rfl | rfl | rfl | rfl
          · exact ⟨_, rfl, nmF_of (by decide +kernel)⟩
          · exact ⟨_, rfl, nmF_of (by decide +kernel)⟩
          · exact ⟨_, rfl, nmF_of (by decide +kernel)⟩
          · exact ⟨_, rfl, nmF_of (by decide +kernel)⟩
        obtain ⟨s4, rfl, l4⟩ := this v4 w4
        exact ⟨s4, l4, rfl, same_new m6⟩
      rintro ⟨nm2, nml2, rfl, s4⟩
      have er4 := s4 _ _ er3
      have eo4 := s4 _ _ eo3
      have sm4 := sm3.trans s4
      clear s4 s3 sm3 er3 eo3 ed3
      -- for j in range(52)
      refine ⟨_, rfl, by decide, by decide, for_range (lo := 0) (n := (52 : Int).toNat) (fun jj σ' H5 => ∃ (y9 : Option V) (nm : Str), NmF nm ∧ ((nm ∉ ss ∧ nm ∉ resv) ∨ ∀ j' < jj, ∀ s : Str, s.cps.toList = candL i j' → s ∈ ss ∨ s ∈ resv) ∧ σ' = [some (.int c), some (.int (n : Int)), some (.ref pr), some (.str lt), some (.str sg), some (.ref o), some (.int (0 + (i : Int))), some (.ref pd), some (.int z), y9, some (.str nm)] ∧ H5 = H4) ?_ ?_ ?_⟩
      · exact ⟨_, nm2, nml2, .inr fun j' h => absurd h (Nat.not_lt_zero _), rfl, rfl⟩
      · rintro jj σ' H5 hj ⟨y9, nm3, nl3, bad, rfl, rfl⟩
        refine (show tIfS _ _ _ _ _ _ from ifS (b := _) (ansOr (fun Q q => ⟨_, rfl, _, rfl, o, _, rfl, .inl (sq eo4), rfl, flat_strs ss, _, rfl, q⟩) (fun Q q => ⟨_, rfl, _, rfl, pr, _, rfl, .inl (sq er4), rfl, hflat, _, rfl, q⟩)) (fun hb => ?_) (fun hb => ⟨_, nm3, nl3, .inl ?_, rfl, rfl⟩))
        rotate_left
        · have hb2 : (inV (V.str nm3) (ss.map V.str) || inV (V.str nm3) rs) = false := hb
          rw [hrv] at hb2
          obtain ⟨h1, h2⟩ := Bool.or_eq_false_iff.mp hb2
          exact ⟨fun m => (by rw [inV_iff.mpr m] at h1; cases h1), fun m => (by rw [inV_iff.mpr m] at h2; cases h2)⟩
        have hj2 : jj < 52 := hj
        obtain ⟨cl, gl, _⟩ := atI_in (xs := lt.cps.toList) (i := (0 + (jj : Int)) % 26) (by omega) (by rw [lt1]; omega)
        have kl := len_digits i (by omega)
        have kl2 : (Str.ofString (toString (0 + (i : Int)))).length ≤ 2 := by rw [hz]; exact kl
        have xl : (cutS (Str.ofString "x") none (some ((0 + (jj : Int)) / 26))).length ≤ 1 := cutS_length _ _ _
        refine ⟨_, rfl, _, rfl, .inl ⟨_, rfl, _, _, rfl, rfl, (show (0 : Int) < 26 by decide), _, _, _, rfl, rfl, lt2, gl, ?_⟩⟩
        refine ⟨_, rfl, _, rfl, ?_, _, _, rfl, rfl, ?_, ?_⟩
        · rw [hz, Int.natAbs_natCast]
          exact Nat.lt_of_le_of_lt (Nat.log2_le_self i) (by omega)
        · exact sz (by show 1 + (Str.ofString (toString (0 + (i : Int)))).length ≤ 100000; omega)
        refine ⟨_, rfl, _, _, rfl, rfl, ⟨by decide, by decide⟩, _, rfl, _, rfl, sz (by decide +kernel), _, _, rfl, rfl, ?_, ?_⟩
        · rw [len_app]
          exact sz (by show 1 + (Str.ofString (toString (0 + (i : Int)))).length + _ ≤ 100000; omega)
        have ecl : cl = letAt (jj % 26) := by
          have e1 : (0 + (jj : Int)) % 26 = ((jj % 26 : Nat) : Int) := by omega
          rw [e1] at gl
          have hlt : jj % 26 < lets.cps.toList.length := by
            rw [← ltE, lt1]
            omega
          rw [ltE, atI_nat (List.getElem?_eq_getElem hlt)] at gl
          have := Option.some.inj gl
          rw [← this]
          unfold letAt
          rw [List.getD_eq_getElem?_getD, List.getElem?_eq_getElem hlt]
          rfl
        have ecx : (cutS (Str.ofString "x") none (some ((0 + (jj : Int)) / 26))).cps.toList = if jj < 26 then [] else [120] := by
          rw [show (0 + (jj : Int)) = (((⟨jj, hj2⟩ : Fin 52) : Nat) : Int) by show (0 : Int) + (jj : Int) = (jj : Int); omega]
          exact cut_x ⟨jj, hj2⟩
        generalize hnew : (⟨#[cl]⟩ : Str) ++ Str.ofString (toString (0 + (i : Int))) ++ cutS (Str.ofString "x") none (some ((0 + (jj : Int)) / 26)) = nw
        have enw : nw.cps.toList = candL i jj := by
          rw [← hnew, str_app, str_app, ecx, ecl, hz]
          rfl
        have hb2 : (inV (V.str nm3) (ss.map V.str) || inV (V.str nm3) rs) = true := hb
        rw [hrv] at hb2
        have bad2 : nm3 ∈ ss ∨ nm3 ∈ resv := by
          rcases Bool.or_eq_true_iff.mp hb2 with h | h
          · exact .inl (inV_iff.mp h)
          · exact .inr (inV_iff.mp h)
        refine ⟨_, nw, cand_f (by omega) nw enw, ?_, rfl, rfl⟩
        by_cases hg : nw ∈ ss ∨ nw ∈ resv
        · refine .inr fun j' h' s hs => ?_
          rcases Nat.lt_or_ge j' jj with h | h
          · rcases bad with ⟨b1, b2⟩ | b
            · rcases bad2 with m | m
              · exact absurd m b1
              · exact absurd m b2
            · exact b j' h s hs
          · have : j' = jj := by omega
            rw [this] at hs
            rw [str_ext (hs.trans enw.symm)]
            exact hg
        · exact .inl ⟨fun m => hg (.inl m), fun m => hg (.inr m)⟩
      · rintro σ' H5 ⟨y9, nm3, nl3, bad, rfl, rfl⟩
        have good : nm3 ∉ ss ∧ nm3 ∉ resv := by
          rcases bad with b | b
          · exact b
          · exact (cand_free (i := i) (ss := ss) (by omega) (by omega) fun j hj s e => b j hj s e).elim
        refine ⟨_, rfl, .inl ⟨rfl, _, sq eo4⟩, _, rfl, o, _, _, rfl, rfl, eo4, ?_, ?_⟩
        · rw [List.length_map]
          exact szl (by omega)
        · refine ⟨_, _, _, _, _, ss ++ [nm3], rfl, Same.mut sm4 ono, by rw [upd_ne opr]; exact er4, by rw [upd_same, List.map_append]; rfl, by rw [List.length_append, hl]; rfl, ?_⟩
          exact hsz.snoc nl3 good.2 good.1
  · rintro σ' H' ⟨y6, y7, y8, y9, y10, ss, rfl, sm, er, eo, hl, hsz⟩
    exact ⟨_, rfl, q H' o ss sm ono eo hl hsz⟩
end
/-! ### drawn values and conditions -/
def VOk (ss : List Str) : Nat → VT → Prop
  | _, .int i => -99 ≤ i ∧ i ≤ 99
  | _, .nm s => s ∈ ss
  | d, .op _ a b => ∃ e, d = e + 1 ∧ VOk ss e a ∧ VOk ss e b
def COk (ss : List Str) : Nat → CT → Prop
  | _, .bl _ => True
  | d, .no c => ∃ e, d = e + 1 ∧ COk ss e c
  | d, .an a b => ∃ e, d = e + 1 ∧ COk ss e a ∧ COk ss e b
  | d, .or a b => ∃ e, d = e + 1 ∧ COk ss e a ∧ COk ss e b
  | _, .cp _ a b => VOk ss 1 a ∧ VOk ss 1 b
theorem VOk.ht {ss : List Str} : ∀ {t : VT} {d : Nat}, VOk ss d t → t.ht ≤ d
  | .int _, _, _ => Nat.zero_le _
  | .nm _, _, _ => Nat.zero_le _
  | .op _ a b, d, ⟨e, h, ha, hb⟩ => by
    have h1 := ha.ht
    have h2 := hb.ht
    show max a.ht b.ht + 1 ≤ d
    omega
theorem VOk.wt {ss : List Str} : ∀ {t : VT} {d : Nat}, VOk ss d t → t.wt ≤ 8 * 2 ^ d
  | .int _, d, _ => by
    have := Nat.two_pow_pos d
    show 8 ≤ 8 * 2 ^ d
    omega
  | .nm _, d, _ => by
    have := Nat.two_pow_pos d
    show 8 ≤ 8 * 2 ^ d
    omega
  | .op _ a b, d, ⟨e, h, ha, hb⟩ => by
    have h1 := ha.wt
    have h2 := hb.wt
    show a.wt + b.wt ≤ 8 * 2 ^ d
    rw [h, Nat.pow_succ]
    omega
theorem COk.ht {ss : List Str} : ∀ {t : CT} {d : Nat}, COk ss d t → t.ht ≤ d
  | .bl _, _, _ => Nat.zero_le _
  | .cp _ _ _, _, _ => Nat.zero_le _
  | .no c, d, ⟨e, h, ha⟩ => by
    have h1 := ha.ht
    show c.ht + 1 ≤ d
    omega
  | .an a b, d, ⟨e, h, ha, hb⟩ => by
    have h1 := ha.ht
    have h2 := hb.ht
    show max a.ht b.ht + 1 ≤ d
    omega
  | .or a b, d, ⟨e, h, ha, hb⟩ => by
    have h1 := ha.ht
    have h2 := hb.ht
    show max a.ht b.ht + 1 ≤ d
    omega
section
variable {P : Program} {w : World} {K : PySem.W.Frag} {mg : Str → Option Value} {base : Heap}
def spLV (K : PySem.W.Frag) (n : Nat) : Sp := fun vs H Q _ => ∃ (c z : Int) (nl : Addr) (ss : List Str), vs = [.int c, .ref nl, .int z] ∧ 0 ≤ z ∧ z < n ∧ SqL K H nl (ss.map V.str) ∧ ∀ H' v t, Same H H' → RVal (Nw H H') t v → VOk ss z.toNat t → Q v H'
abbrev s_law_value : Stmt := topS 15
theorem sc_law_value : FnScope ["cell", "names", "depth", "draws", "sign"] ["cell", "names", "depth"] (defScope s_law_value) := ⟨rfl, rfl, rfl, by decide +kernel, rfl, by decide +kernel, by decide +kernel⟩
-- _law_value slots: cell=0 names=1 depth=2 draws=3 sign=4 globals: _law_draws _law_value len int
theorem fd_law_value {f : Addr} {fd : FuncData} (F : Fun K "_law_value" "_law_value" s_law_value f fd) (m : mg "_law_value" = some (.ref f)) (B : Bt mg) (D_law_draws : Fd P w K mg base "_law_draws" ["cell", "limits"] 1 (spDraws K)) : ∀ n : Nat, Fd P w K mg base "_law_value" ["cell", "names", "depth"] (n + 1) (spLV K n)
  | 0 => Fd.none F m (F.binds (ps := ["cell", "names", "depth"]) fun _ _ _ _ _ _ us hl => match us, hl with | [_, _, _], _ => rfl) fun vs H Q E h => by
    obtain ⟨c, z, nl, ss, _, h0, h1, _⟩ := h
    omega
  | n + 1 => by
    have D_law_value := fd_law_value F m B D_law_draws n
    refine ⟨f, fd, F.ok sc_law_value (fun vs H Q E h => ?_) (fun cdv A outer s H vs Q E hr h => ?_), m, F.kp, F.binds (ps := ["cell", "names", "depth"]) fun _ _ _ _ _ _ us hl => match us, hl with | [_, _, _], _ => rfl⟩
    · obtain ⟨c, z, nl, ss, rfl, _⟩ := h
      rfl
    obtain ⟨c, z, nl, ss, rfl, z0, z1, hn, q⟩ := h
    refine ⟨_, (pss_cons (ps_set (i := 3) sc_law_value.nd rfl (Or.inl rfl) (pe_fn D_law_draws (hr.mono (by omega)) rfl (pa_cons (pv 0) (pa_cons (pe_lst (pa_cons pe_int (pa_cons pe_int (pa_cons pe_int (pa_cons pe_int (pa_cons (pe_op op_pow pe_int pe_int) (pa_cons (pe_op op_pow pe_int pe_int) pa_nil))))))) pa_nil))))
 (pss_cons (ps_if (PW.pt (pw_and (pt_cmpR op_gt (pv 2) pe_int (nomark _)) (pw_and1 (pt_cmpR op_gt (pe_ix (ixL K) (pv 3) pe_int (fun _ _ => rfl)) pe_int (nomark _)))))
 (pss_cons (ps_set (i := 4) sc_law_value.nd rfl (Or.inl rfl) (pe_ix (ixL K) (pe_lst (pa_cons pe_str (pa_cons pe_str (pa_cons pe_str pa_nil)))) (pe_ix (ixL K) (pv 3) pe_int (fun _ _ => rfl)) (fun _ _ => rfl)))
 (pss_one (ps_ret (pe_tup (pa_cons (pv 4) (pa_cons (pe_fn D_law_value hr rfl (pa_cons (pe_ix (ixL K) (pv 3) pe_int (fun _ _ => rfl)) (pa_cons (pv 1) (pa_cons (pe_op op_sub (pv 2) pe_int) pa_nil)))) (pa_cons (pe_fn D_law_value hr rfl (pa_cons (pe_ix (ixL K) (pv 3) pe_int (fun _ _ => rfl)) (pa_cons (pv 1) (pa_cons (pe_op op_sub (pv 2) pe_int) pa_nil)))) pa_nil)))))))
 pss_nil)
 (pss_cons (ps_if (PW.pt (pw_and (pt_cmpR op_gt (pe_callB (cLen K) (by rfl) B.len PySem.boot_len (pa_cons (pv 1) pa_nil)) pe_int (nomark _)) (pw_and1 (pt_cmpR op_eq (pe_op op_and (pe_ix (ixL K) (pv 3) pe_int (fun _ _ => rfl)) pe_int) pe_int (nomark _)))))
 (pss_one (ps_ret (pe_ix (ixL K) (pv 1) (pe_op op_mod (pe_callTy call_int1 (by rfl) B.int (by decide +kernel) (pa_cons (pe_ix (ixL K) (pv 3) pe_int (fun _ _ => rfl)) pa_nil)) (pe_callB (cLen K) (by rfl) B.len PySem.boot_len (pa_cons (pv 1) pa_nil))) (fun _ _ => rfl))))
 pss_nil)
 (pss_cons (ps_if (pt_cmpR op_eq (pe_ix (ixL K) (pv 3) pe_int (fun _ _ => rfl)) pe_int (nomark _))
 (pss_one (ps_ret (pe_op op_sub (pe_ix (ixL K) (pv 3) pe_int (fun _ _ => rfl)) pe_int)))
 pss_nil)
 (pss_one (ps_ret (pe_op op_sub (pe_op op_mod (pe_callTy call_int1 (by rfl) B.int (by decide +kernel) (pa_cons (pe_ix (ixL K) (pv 3) pe_int (fun _ _ => rfl)) pa_nil)) pe_int) pe_int))))))), ?_⟩
    refine ⟨_, rfl, _, _, rfl, rfl, ⟨by decide, by decide, by decide⟩, _, _, rfl, rfl, ⟨by decide, by decide, by decide⟩, szc 6, fun p1 n1 => ⟨p1, c, [6, 199, 60, 3, 10 ^ 9, 10 ^ 9], rfl, sq upd_same, by decide, by decide, fun H1 pd ds s1 nd ed dk => ?_⟩⟩
    have sm1 := (same_new n1).trans s1
    obtain ⟨d0, r0, rfl, a0, a1, dk⟩ := dk.cons
    obtain ⟨d1, r1, rfl, b0, b1, dk⟩ := dk.cons
    obtain ⟨d2, r2, rfl, c0, c1, dk⟩ := dk.cons
    obtain ⟨d3, r3, rfl, e0, e1, dk⟩ := dk.cons
    obtain ⟨d4, r4, rfl, f0, f1, dk⟩ := dk.cons
    obtain ⟨d5, r5, rfl, g0, g1, dk⟩ := dk.cons
    have sd := sq (K := K) ed
    have hn1 := sm1.seq hn
    clear nd dk n1 s1
    dsimp only [gName]
    refine ifR (b := _) (ansAnd (fun Q q => ⟨_, rfl, _, _, rfl, rfl, _, rfl, q⟩) (fun Q q => ⟨_, rfl, _, _, _, _, rfl, rfl, sd, atI_nat (j := 0) rfl, _, _, rfl, rfl, _, rfl, q⟩)) (fun hb => ?_) (fun _ => ?_)
    · have hz : 0 < z := by
        by_cases h : 0 < z
        · exact h
        · rw [decide_eq_false h, Bool.false_and] at hb
          cases hb
      obtain ⟨o, ho⟩ : ∃ o : Ar, atI [V.str (Str.ofString "+"), V.str (Str.ofString "-"), V.str (Str.ofString "*")] d3 = some (.str o.tx) := by
        have : d3 = 0 ∨ d3 = 1 ∨ d3 = 2 := by omega
        rcases this with rfl | rfl | rfl
        · exact ⟨.add, rfl⟩
        · exact ⟨.sub, rfl⟩
        · exact ⟨.mul, rfl⟩
      refine ⟨szc 3, fun q5 m5 => ⟨_, rfl, _, _, _, _, rfl, rfl, (same_new m5).seq sd, atI_nat (j := 3) rfl, _, _, _, _, rfl, rfl, sq upd_same, ho, ?_⟩⟩
      have sm2 := same_new (o := HO.lst [V.str (Str.ofString "+"), V.str (Str.ofString "-"), V.str (Str.ofString "*")]) m5
      refine ⟨_, rfl, _, rfl, _, _, _, _, rfl, rfl, sm2.seq sd, atI_nat (j := 4) rfl, _, rfl, _, rfl, _, _, rfl, rfl, d4, z - 1, nl, ss, rfl, by omega, by omega, sm2.seq hn1, fun H3 v1 t1 s3 r1 o1 => ?_⟩
      refine ⟨_, rfl, _, _, _, _, rfl, rfl, s3.seq (sm2.seq sd), atI_nat (j := 5) rfl, _, rfl, _, rfl, _, _, rfl, rfl, d5, z - 1, nl, ss, rfl, by omega, by omega, s3.seq (sm2.seq hn1), fun H4 v2 t2 s4 r2 o2 => ?_⟩
      refine ⟨szc 3, fun pt npt => q _ _ (.op o t1 t2) ((((sm1.trans sm2).trans s3).trans s4).trans (same_new npt)) ⟨pt, v1, v2, rfl, (nw_at ((((sm1.trans sm2).trans s3).trans s4).free npt)).trans upd_same, RVal.mono (nw_mono (sm1.trans sm2) (s4.trans (same_new npt))) r1, RVal.mono (nw_mono ((sm1.trans sm2).trans s3) (same_new npt)) r2⟩ ⟨(z - 1).toNat, by omega, o1, o2⟩⟩
    refine ifR (b := _) (ansAnd (fun Q q => ⟨_, rfl, nl, _, rfl, .inl hn1, _, _, rfl, rfl, _, rfl, q⟩) (fun Q q => ⟨_, rfl, _, _, _, _, rfl, rfl, sd, atI_nat (j := 0) rfl, _, _, rfl, rfl, rfl, _, rfl, q⟩)) (fun hb => ?_) (fun _ => ?_)
    · have hl : (0 : Int) < ((ss.map V.str).length : Nat) := by
        by_cases h : (0 : Int) < ((ss.map V.str).length : Nat)
        · exact h
        · rw [decide_eq_false h, Bool.false_and] at hb
          cases hb
      have hm1 := Int.emod_lt_of_pos d2 hl
      obtain ⟨sv, gs, ms, _⟩ := atI_map (f := V.str) (xs := ss) (i := d2 % ((ss.map V.str).length : Nat)) (Int.emod_nonneg _ (by omega)) (by rw [List.length_map] at hm1 ⊢; exact hm1)
      refine ⟨_, rfl, _, rfl, _, _, _, _, rfl, rfl, sd, atI_nat (j := 2) rfl, .inl ⟨_, rfl, _, rfl, nl, _, rfl, .inl hn1, _, _, rfl, rfl, hl, _, _, _, _, rfl, rfl, hn1, gs, ?_⟩⟩
      exact q _ _ (.nm sv) sm1 rfl ms
    refine ifR (b := _) (fun Q q => ⟨_, rfl, _, _, _, _, rfl, rfl, sd, atI_nat (j := 0) rfl, rfl, _, rfl, q⟩) (fun hb => ?_) (fun _ => ?_)
    · refine ⟨_, rfl, _, _, _, _, rfl, rfl, sd, atI_nat (j := 1) rfl, _, _, rfl, rfl, ?_⟩
      exact q _ _ (.int (d1 - 99)) sm1 rfl (by show -99 ≤ d1 - 99 ∧ d1 - 99 ≤ 99; omega)
    · refine ⟨_, rfl, _, _, _, _, rfl, rfl, sd, atI_nat (j := 1) rfl, .inl ⟨_, rfl, _, _, rfl, rfl, (show (0 : Int) < 7 by decide), _, _, rfl, rfl, ?_⟩⟩
      exact q _ _ (.int (d1 % 7 - 2)) sm1 rfl (by show -99 ≤ d1 % 7 - 2 ∧ d1 % 7 - 2 ≤ 99; omega)
end
section
variable {P : Program} {w : World} {K : PySem.W.Frag} {mg : Str → Option Value} {base : Heap}
theorem and_true_l {a b : Bool} (h : (a && b) = true) : a = true := by cases a <;> simp_all
theorem and_true_r {a b : Bool} (h : (a && b) = true) : b = true := by cases b <;> simp_all
def spLC (K : PySem.W.Frag) (n : Nat) : Sp := fun vs H Q _ => ∃ (c z : Int) (nl : Addr) (ss : List Str), vs = [.int c, .ref nl, .int z] ∧ 0 ≤ z ∧ z < n ∧ SqL K H nl (ss.map V.str) ∧ ∀ H' v t, Same H H' → RCond (Nw H H') t v → COk ss z.toNat t → Q v H'
abbrev s_law_condition : Stmt := topS 16
theorem sc_law_condition : FnScope ["cell", "names", "depth", "draws", "sign"] ["cell", "names", "depth"] (defScope s_law_condition) := ⟨rfl, rfl, rfl, by decide +kernel, rfl, by decide +kernel, by decide +kernel⟩
-- _law_condition slots: cell=0 names=1 depth=2 draws=3 sign=4 globals: _law_draws _law_condition _law_value
theorem fd_law_condition {f : Addr} {fd : FuncData} (F : Fun K "_law_condition" "_law_condition" s_law_condition f fd) (m : mg "_law_condition" = some (.ref f)) (D_law_draws : Fd P w K mg base "_law_draws" ["cell", "limits"] 1 (spDraws K)) (D_law_value : Fd P w K mg base "_law_value" ["cell", "names", "depth"] 3 (spLV K 2)) : ∀ n : Nat, Fd P w K mg base "_law_condition" ["cell", "names", "depth"] (n + 3) (spLC K n)
  | 0 => Fd.none F m (F.binds (ps := ["cell", "names", "depth"]) fun _ _ _ _ _ _ us hl => match us, hl with | [_, _, _], _ => rfl) fun vs H Q E h => by
    obtain ⟨c, z, nl, ss, _, h0, h1, _⟩ := h
    omega
  | n + 1 => by
    have D_law_condition := fd_law_condition F m D_law_draws D_law_value n
    refine ⟨f, fd, F.ok sc_law_condition (fun vs H Q E h => ?_) (fun cdv A outer s H vs Q E hr h => ?_), m, F.kp, F.binds (ps := ["cell", "names", "depth"]) fun _ _ _ _ _ _ us hl => match us, hl with | [_, _, _], _ => rfl⟩
    · obtain ⟨c, z, nl, ss, rfl, _⟩ := h
      rfl
    obtain ⟨c, z, nl, ss, rfl, z0, z1, hn, q⟩ := h
    refine ⟨_, (pss_cons (ps_set (i := 3) sc_law_condition.nd rfl (Or.inl rfl) (pe_fn D_law_draws (hr.mono (by omega)) rfl (pa_cons (pv 0) (pa_cons (pe_lst (pa_cons pe_int (pa_cons pe_int (pa_cons (pe_op op_pow pe_int pe_int) (pa_cons (pe_op op_pow pe_int pe_int) pa_nil))))) pa_nil))))
 (pss_cons (ps_if (pt_cmpR op_lt (pe_ix (ixL K) (pv 3) pe_int (fun _ _ => rfl)) pe_int (nomark _))
 (pss_one (ps_ret (pe_cmpR op_eq (pe_ix (ixL K) (pv 3) pe_int (fun _ _ => rfl)) pe_int (nomark _))))
 pss_nil)
 (pss_cons (ps_if (PW.pt (pw_and (pt_cmpR op_gt (pv 2) pe_int (nomark _)) (pw_and1 (pt_cmpR op_eq (pe_ix (ixL K) (pv 3) pe_int (fun _ _ => rfl)) pe_int (nomark _)))))
 (pss_one (ps_ret (pe_tup (pa_cons pe_str (pa_cons (pe_fn D_law_condition hr rfl (pa_cons (pe_ix (ixL K) (pv 3) pe_int (fun _ _ => rfl)) (pa_cons (pv 1) (pa_cons (pe_op op_sub (pv 2) pe_int) pa_nil)))) pa_nil)))))
 pss_nil)
 (pss_cons (ps_if (PW.pt (pw_and (pt_cmpR op_gt (pv 2) pe_int (nomark _)) (pw_and1 (pt_cmpR op_lt (pe_ix (ixL K) (pv 3) pe_int (fun _ _ => rfl)) pe_int (nomark _)))))
 (pss_cons (ps_set (i := 4) sc_law_condition.nd rfl (Or.inl rfl) (pe_ix (ixL K) (pe_lst (pa_cons pe_str (pa_cons pe_str pa_nil))) (pe_op op_sub (pe_ix (ixL K) (pv 3) pe_int (fun _ _ => rfl)) pe_int) (fun _ _ => rfl)))
 (pss_one (ps_ret (pe_tup (pa_cons (pv 4) (pa_cons (pe_fn D_law_condition hr rfl (pa_cons (pe_ix (ixL K) (pv 3) pe_int (fun _ _ => rfl)) (pa_cons (pv 1) (pa_cons (pe_op op_sub (pv 2) pe_int) pa_nil)))) (pa_cons (pe_fn D_law_condition hr rfl (pa_cons (pe_ix (ixL K) (pv 3) pe_int (fun _ _ => rfl)) (pa_cons (pv 1) (pa_cons (pe_op op_sub (pv 2) pe_int) pa_nil)))) pa_nil)))))))
 pss_nil)
 (pss_one (ps_ret (pe_tup (pa_cons (pe_ix (ixL K) (pe_lst (pa_cons pe_str (pa_cons pe_str (pa_cons pe_str pa_nil)))) (pe_ix (ixL K) (pv 3) pe_int (fun _ _ => rfl)) (fun _ _ => rfl)) (pa_cons (pe_fn D_law_value (hr.mono (by omega)) rfl (pa_cons (pe_ix (ixL K) (pv 3) pe_int (fun _ _ => rfl)) (pa_cons (pv 1) (pa_cons pe_int pa_nil)))) (pa_cons (pe_fn D_law_value (hr.mono (by omega)) rfl (pa_cons (pe_ix (ixL K) (pv 3) pe_int (fun _ _ => rfl)) (pa_cons (pv 1) (pa_cons pe_int pa_nil)))) pa_nil)))))))))), ?_⟩
    refine ⟨_, rfl, _, _, rfl, rfl, ⟨by decide, by decide, by decide⟩, _, _, rfl, rfl, ⟨by decide, by decide, by decide⟩, szc 4, fun p1 n1 => ⟨p1, c, [9, 3, 10 ^ 9, 10 ^ 9], rfl, sq upd_same, by decide, by decide, fun H1 pd ds s1 nd ed dk => ?_⟩⟩
    have sm1 := (same_new n1).trans s1
    obtain ⟨d0, r0, rfl, a0, a1, dk⟩ := dk.cons
    obtain ⟨d1, r1, rfl, b0, b1, dk⟩ := dk.cons
    obtain ⟨d2, r2, rfl, c0, c1, dk⟩ := dk.cons
    obtain ⟨d3, r3, rfl, e0, e1, dk⟩ := dk.cons
    have sd := sq (K := K) ed
    have hn1 := sm1.seq hn
    clear nd dk n1 s1
    dsimp only [gName]
    refine ifR (b := _) (fun Q q => ⟨_, rfl, _, _, _, _, rfl, rfl, sd, atI_nat (j := 0) rfl, _, _, rfl, rfl, _, rfl, q⟩) (fun _ => ?_) (fun h0 => ?_)
    · exact ⟨_, rfl, _, _, _, _, rfl, rfl, sd, atI_nat (j := 0) rfl, rfl, q _ _ (.bl _) sm1 rfl trivial⟩
    have h0 := of_decide_eq_false h0
    refine ifR (b := _) (ansAnd (fun Q q => ⟨_, rfl, _, _, rfl, rfl, _, rfl, q⟩) (fun Q q => ⟨_, rfl, _, _, _, _, rfl, rfl, sd, atI_nat (j := 0) rfl, rfl, _, rfl, q⟩)) (fun hb => ?_) (fun h2 => ?_)
    · have hz : 0 < z := of_decide_eq_true (and_true_l hb)
      refine ⟨_, rfl, _, _, _, _, rfl, rfl, sd, atI_nat (j := 2) rfl, _, rfl, _, rfl, _, _, rfl, rfl, d2, z - 1, nl, ss, rfl, by omega, by omega, hn1, fun H2 v1 t1 s2 r1 o1 => ?_⟩
      exact ⟨szc 2, fun pt npt => q _ _ (.no t1) ((sm1.trans s2).trans (same_new npt)) ⟨pt, v1, rfl, (nw_at ((sm1.trans s2).free npt)).trans upd_same, RCond.mono (nw_mono sm1 (same_new npt)) r1⟩ ⟨(z - 1).toNat, by omega, o1⟩⟩
    refine ifR (b := _) (ansAnd (fun Q q => ⟨_, rfl, _, _, rfl, rfl, _, rfl, q⟩) (fun Q q => ⟨_, rfl, _, _, _, _, rfl, rfl, sd, atI_nat (j := 0) rfl, _, _, rfl, rfl, _, rfl, q⟩)) (fun hb => ?_) (fun _ => ?_)
    · have hz : 0 < z := of_decide_eq_true (and_true_l hb)
      have h5 : d0 < 5 := of_decide_eq_true (and_true_r hb)
      rw [decide_eq_true hz, Bool.true_and] at h2
      have h2b := of_decide_eq_false h2
      have hd : d0 = 3 ∨ d0 = 4 := by
        have : d0 ≠ 2 := fun e => h2b (by rw [e])
        have : ¬ d0 < 2 := h0
        omega
      obtain ⟨k, ho⟩ : ∃ k : Bool, atI [V.str (Str.ofString "and"), V.str (Str.ofString "or")] (d0 - 3) = some (if k then .str (Str.ofString "and") else .str (Str.ofString "or")) := by
        rcases hd with rfl | rfl
        · exact ⟨true, rfl⟩
        · exact ⟨false, rfl⟩
      refine ⟨szc 2, fun q5 m5 => ⟨_, rfl, _, _, _, _, rfl, rfl, (same_new m5).seq sd, atI_nat (j := 0) rfl, _, _, rfl, rfl, _, _, _, _, rfl, rfl, sq upd_same, ho, ?_⟩⟩
      have sm2 := same_new (o := HO.lst [V.str (Str.ofString "and"), V.str (Str.ofString "or")]) m5
      refine ⟨_, rfl, _, rfl, _, _, _, _, rfl, rfl, sm2.seq sd, atI_nat (j := 2) rfl, _, rfl, _, rfl, _, _, rfl, rfl, d2, z - 1, nl, ss, rfl, by omega, by omega, sm2.seq hn1, fun H3 v1 t1 s3 r1 o1 => ?_⟩
      refine ⟨_, rfl, _, _, _, _, rfl, rfl, s3.seq (sm2.seq sd), atI_nat (j := 3) rfl, _, rfl, _, rfl, _, _, rfl, rfl, d3, z - 1, nl, ss, rfl, by omega, by omega, s3.seq (sm2.seq hn1), fun H4 v2 t2 s4 r2 o2 => ?_⟩
      refine ⟨szc 3, fun pt npt => ?_⟩
      have sa := (((sm1.trans sm2).trans s3).trans s4).trans (same_new npt (o := HO.tup [(if k then .str (Str.ofString "and") else .str (Str.ofString "or")), v1, v2]))
      cases k with
      | true => exact q _ _ (.an t1 t2) sa ⟨pt, v1, v2, rfl, (nw_at ((((sm1.trans sm2).trans s3).trans s4).free npt)).trans upd_same, RCond.mono (nw_mono (sm1.trans sm2) (s4.trans (same_new npt))) r1, RCond.mono (nw_mono ((sm1.trans sm2).trans s3) (same_new npt)) r2⟩ ⟨(z - 1).toNat, by omega, o1, o2⟩
      | false => exact q _ _ (.or t1 t2) sa ⟨pt, v1, v2, rfl, (nw_at ((((sm1.trans sm2).trans s3).trans s4).free npt)).trans upd_same, RCond.mono (nw_mono (sm1.trans sm2) (s4.trans (same_new npt))) r1, RCond.mono (nw_mono ((sm1.trans sm2).trans s3) (same_new npt)) r2⟩ ⟨(z - 1).toNat, by omega, o1, o2⟩
    · obtain ⟨o, ho⟩ : ∃ o : Cp, atI [V.str (Str.ofString "="), V.str (Str.ofString "<"), V.str (Str.ofString "<=")] d1 = some (.str o.tx) := by
        have : d1 = 0 ∨ d1 = 1 ∨ d1 = 2 := by omega
        rcases this with rfl | rfl | rfl
        · exact ⟨.eq, rfl⟩
        · exact ⟨.lt, rfl⟩
        · exact ⟨.le, rfl⟩
      refine ⟨szc 3, fun q5 m5 => ⟨_, rfl, _, _, _, _, rfl, rfl, (same_new m5).seq sd, atI_nat (j := 1) rfl, _, _, _, _, rfl, rfl, sq upd_same, ho, ?_⟩⟩
      have sm2 := same_new (o := HO.lst [V.str (Str.ofString "="), V.str (Str.ofString "<"), V.str (Str.ofString "<=")]) m5
      refine ⟨_, rfl, _, _, _, _, rfl, rfl, sm2.seq sd, atI_nat (j := 2) rfl, _, rfl, d2, 1, nl, ss, rfl, by decide, by decide, sm2.seq hn1, fun H3 v1 t1 s3 r1 o1 => ?_⟩
      refine ⟨_, rfl, _, _, _, _, rfl, rfl, s3.seq (sm2.seq sd), atI_nat (j := 3) rfl, _, rfl, d3, 1, nl, ss, rfl, by decide, by decide, s3.seq (sm2.seq hn1), fun H4 v2 t2 s4 r2 o2 => ?_⟩
      exact ⟨szc 3, fun pt npt => q _ _ (.cp o t1 t2) ((((sm1.trans sm2).trans s3).trans s4).trans (same_new npt)) ⟨pt, v1, v2, rfl, (nw_at ((((sm1.trans sm2).trans s3).trans s4).free npt)).trans upd_same, RVal.mono (nw_mono (sm1.trans sm2) (s4.trans (same_new npt))) r1, RVal.mono (nw_mono ((sm1.trans sm2).trans s3) (same_new npt)) r2⟩ ⟨o1, o2⟩⟩
end
/-! ### data: what stands in the heap, at any depth -/
mutual
theorem dp_mono {K : PySem.W.Frag} {H H' : Hp} (e : Same H H') : ∀ {v : V} {d : PyData}, Dp K H v d → Dp K H' v d
  | _, .none, .non => .non
  | _, .bool _, .bl b => .bl b
  | _, .int _, .int i => .int i
  | _, .str _, .str x => .str x
  | _, .list _, .lst h a => .lst (e.seq h) (dpAll_mono e a)
  | _, .tuple _, .tup h a => .tup (Same.seqT e h) (dpAll_mono e a)
theorem dpAll_mono {K : PySem.W.Frag} {H H' : Hp} (e : Same H H') : ∀ {vs : List V} {ds : List PyData}, DpAll K H vs ds → DpAll K H' vs ds
  | _, [], .nil => .nil
  | _, _ :: _, .cons h t => .cons (dp_mono e h) (dpAll_mono e t)
end
theorem dpa_len {K : PySem.W.Frag} {H : Hp} : ∀ {ds : List PyData} {vs : List V}, DpAll K H vs ds → vs.length = ds.length
  | [], _, .nil => rfl
  | _ :: _, _, .cons _ t => congrArg (· + 1) (dpa_len t)
theorem dpa_at {K : PySem.W.Frag} {H : Hp} : ∀ {ds : List PyData} {vs : List V}, DpAll K H vs ds → ∀ {i : Nat} {v : V}, vs[i]? = some v → ∃ d, ds[i]? = some d ∧ Dp K H v d
  | [], _, .nil, i, v, h => by simp at h
  | _ :: _, _, .cons a t, 0, v, h => by
    have := Option.some.inj h
    subst this
    exact ⟨_, rfl, a⟩
  | _ :: _, _, .cons a t, i + 1, v, h => dpa_at t (i := i) h
theorem dpa_at' {K : PySem.W.Frag} {H : Hp} : ∀ {ds : List PyData} {vs : List V}, DpAll K H vs ds → ∀ {i : Nat} {d : PyData}, ds[i]? = some d → ∃ v, vs[i]? = some v ∧ Dp K H v d
  | [], _, .nil, i, v, h => by simp at h
  | _ :: _, _, .cons a t, 0, v, h => by
    have := Option.some.inj h
    subst this
    exact ⟨_, rfl, a⟩
  | _ :: _, _, .cons a t, i + 1, v, h => dpa_at' t (i := i) h
theorem dpa_app {K : PySem.W.Frag} {H : Hp} : ∀ {ds es : List PyData} {vs us : List V}, DpAll K H vs ds → DpAll K H us es → DpAll K H (vs ++ us) (ds ++ es)
  | [], _, _, _, .nil, b => b
  | _ :: _, _, _, _, .cons a t, b => .cons a (dpa_app t b)
theorem dpa_strs {K : PySem.W.Frag} {H : Hp} : ∀ ss : List Str, DpAll K H (ss.map V.str) (ss.map PyData.str)
  | [] => .nil
  | s :: r => .cons (.str s) (dpa_strs r)
theorem dpa_ints {K : PySem.W.Frag} {H : Hp} : ∀ ss : List Int, DpAll K H (ss.map V.int) (ss.map PyData.int)
  | [] => .nil
  | s :: r => .cons (.int s) (dpa_ints r)
/-- a tuple of data -/
theorem dp_tup {K : PySem.W.Frag} {H : Hp} {v : V} {ds : List PyData} (h : Dp K H v (.tuple ds)) : ∃ a xs, v = .ref a ∧ SqT K H a xs ∧ DpAll K H xs ds := by
  cases h with
  | tup hs ha => exact ⟨_, _, rfl, hs, ha⟩
theorem dp_lst {K : PySem.W.Frag} {H : Hp} {v : V} {ds : List PyData} (h : Dp K H v (.list ds)) : ∃ a xs, v = .ref a ∧ SqL K H a xs ∧ DpAll K H xs ds := by
  cases h with
  | lst hs ha => exact ⟨_, _, rfl, hs, ha⟩
theorem dp_str {K : PySem.W.Frag} {H : Hp} {v : V} {s : Str} (h : Dp K H v (.str s)) : v = .str s := by cases h; rfl
theorem dp_int {K : PySem.W.Frag} {H : Hp} {v : V} {s : Int} (h : Dp K H v (.int s)) : v = .int s := by cases h; rfl
theorem dpa_cons {K : PySem.W.Frag} {H : Hp} {vs : List V} {d : PyData} {ds : List PyData} (h : DpAll K H vs (d :: ds)) : ∃ v r, vs = v :: r ∧ Dp K H v d ∧ DpAll K H r ds := by
  cases h with
  | cons a t => exact ⟨_, _, rfl, a, t⟩
theorem dpa_nil {K : PySem.W.Frag} {H : Hp} {vs : List V} (h : DpAll K H vs []) : vs = [] := by cases h; rfl
theorem dpa_strsE {K : PySem.W.Frag} {H : Hp} : ∀ {ss : List Str} {vs : List V}, DpAll K H vs (ss.map PyData.str) → vs = ss.map V.str
  | [], _, h => dpa_nil h
  | s :: r, _, h => by
    obtain ⟨v, q, rfl, a, t⟩ := dpa_cons h
    rw [dp_str a, dpa_strsE t]
    rfl
def VT.data : VT → PyData
  | .int i => .int i
  | .nm s => .str s
  | .op o a b => .tuple [.str o.tx, a.data, b.data]
def CT.data : CT → PyData
  | .bl b => .bool b
  | .no c => .tuple [.str (Str.ofString "not"), c.data]
  | .an a b => .tuple [.str (Str.ofString "and"), a.data, b.data]
  | .or a b => .tuple [.str (Str.ofString "or"), a.data, b.data]
  | .cp o a b => .tuple [.str o.tx, a.data, b.data]
theorem RVal.dp {K : PySem.W.Frag} {H : Hp} : ∀ {t : VT} {v : V}, RVal H t v → Dp K H v t.data
  | .int _, _, h => by cases (show _ = _ from h); exact .int _
  | .nm _, _, h => by cases (show _ = _ from h); exact .str _
  | .op _ _ _, _, ⟨t, x, y, e, ht, ha, hb⟩ => by subst e; exact .tup (st ht) (.cons (.str _) (.cons (RVal.dp ha) (.cons (RVal.dp hb) .nil)))
theorem RCond.dp {K : PySem.W.Frag} {H : Hp} : ∀ {t : CT} {v : V}, RCond H t v → Dp K H v t.data
  | .bl _, _, h => by cases (show _ = _ from h); exact .bl _
  | .no _, _, ⟨t, x, e, ht, ha⟩ => by subst e; exact .tup (st ht) (.cons (.str _) (.cons (RCond.dp ha) .nil))
  | .an _ _, _, ⟨t, x, y, e, ht, ha, hb⟩ => by subst e; exact .tup (st ht) (.cons (.str _) (.cons (RCond.dp ha) (.cons (RCond.dp hb) .nil)))
  | .or _ _, _, ⟨t, x, y, e, ht, ha, hb⟩ => by subst e; exact .tup (st ht) (.cons (.str _) (.cons (RCond.dp ha) (.cons (RCond.dp hb) .nil)))
  | .cp _ _ _, _, ⟨t, x, y, e, ht, ha, hb⟩ => by subst e; exact .tup (st ht) (.cons (.str _) (.cons (RVal.dp ha) (.cons (RVal.dp hb) .nil)))
/-! ### statements as trees -/
inductive ST where
  | skip | set (n : Str) (v : VT) | acq (l : Str) | rel (l : Str) | rest (b : Str) | wake (b : Str) | start (k : Str) | chk (c : CT) | awt (c : CT) | mark (m : Str)
  | iff (c : CT) (a b : List ST) | loop (c : CT) (a : List ST) | choose (bs : List (List ST))
mutual
def ST.data : ST → PyData
  | .skip => .tuple [.str (Str.ofString "skip")]
  | .set n v => .tuple [.str (Str.ofString "set"), .str n, v.data]
  | .acq l => .tuple [.str (Str.ofString "acquire"), .str l]
  | .rel l => .tuple [.str (Str.ofString "release"), .str l]
  | .rest b => .tuple [.str (Str.ofString "rest"), .str b]
  | .wake b => .tuple [.str (Str.ofString "wake"), .str b]
  | .start k => .tuple [.str (Str.ofString "start"), .str k]
  | .chk c => .tuple [.str (Str.ofString "check"), c.data]
  | .awt c => .tuple [.str (Str.ofString "await"), c.data]
  | .mark m => .tuple [.str (Str.ofString "mark"), .str m]
  | .iff c a b => .tuple [.str (Str.ofString "if"), c.data, .list (datas a), .list (datas b)]
  | .loop c a => .tuple [.str (Str.ofString "loop"), c.data, .list (datas a)]
  | .choose bs => .tuple [.str (Str.ofString "choose"), .list (datass bs)]
def datas : List ST → List PyData
  | [] => []
  | s :: r => s.data :: datas r
def datass : List (List ST) → List PyData
  | [] => []
  | b :: r => .list (datas b) :: datass r
end
theorem datas_map : ∀ ss : List ST, datas ss = ss.map ST.data
  | [] => rfl
  | s :: r => by
    show s.data :: datas r = s.data :: r.map ST.data
    rw [datas_map r]
theorem datass_map : ∀ bs : List (List ST), datass bs = bs.map fun b => .list (datas b)
  | [] => rfl
  | b :: r => by
    show PyData.list (datas b) :: datass r = _ :: _
    rw [datass_map r]
theorem datas_app (a b : List ST) : datas (a ++ b) = datas a ++ datas b := by rw [datas_map, datas_map, datas_map, List.map_append]
theorem datas_len (a : List ST) : (datas a).length = a.length := by rw [datas_map, List.length_map]
theorem datass_len (a : List (List ST)) : (datass a).length = a.length := by rw [datass_map, List.length_map]
/-- what names there are -/
structure GE where
  vars : List Str
  locks : List Str
  bells : List Str
  titles : List Str
  names : List Str
mutual
/-- a drawn body: locks are taken and given back -/
inductive GB (e : GE) : List Str → Nat → List ST → Prop
  | nil {h d} : GB e h d []
  | cons {h d s r} : GS e h d s → GB e h d r → GB e h d (s :: r)
  | lock {h d l b r} : l ∈ e.locks → l ∉ h → GB e (h ++ [l]) d b → GB e h d r → GB e h d (.acq l :: (b ++ .rel l :: r))
inductive GS (e : GE) : List Str → Nat → ST → Prop
  | skip {h d} : GS e h d .skip
  | set {h d n v} : n ∈ e.vars → VOk e.vars 2 v → GS e h d (.set n v)
  | rest {d b} : b ∈ e.bells → GS e [] d (.rest b)
  | wake {h d b} : b ∈ e.bells → GS e h d (.wake b)
  | start {h d k} : k ∈ e.titles → GS e h d (.start k)
  | chk {h d c} : COk e.vars 2 c → GS e h d (.chk c)
  | awt {h d c} : COk e.vars 2 c → GS e h d (.awt c)
  | mark {h d m} : m ∈ e.names → GS e h d (.mark m)
  | iff {h d c a b} : COk e.vars 2 c → GB e h d a → GB e h d b → a.length ≤ 1000 → b.length ≤ 1000 → GS e h (d + 1) (.iff c a b)
  | loop {h d c a} : COk e.vars 2 c → GB e h d a → a.length ≤ 1000 → GS e h (d + 1) (.loop c a)
  | choose {h d bs} : bs ≠ [] → bs.length ≤ 6 → (∀ b ∈ bs, GB e h d b) → (∀ b ∈ bs, b.length ≤ 1000) → GS e h (d + 1) (.choose bs)
end
theorem gb_app {e : GE} {h : List Str} {d : Nat} : ∀ {a b : List ST}, GB e h d a → GB e h d b → GB e h d (a ++ b)
  | _, _, .nil, hb => hb
  | _, _, .cons s r, hb => .cons s (gb_app r hb)
  | _, _, .lock h1 h2 hbd hr, hb => by
    rw [List.cons_append, List.append_assoc, List.cons_append]
    exact .lock h1 h2 hbd (gb_app hr hb)
def ST.word : ST → Str
  | .skip => Str.ofString "skip"
  | .set _ _ => Str.ofString "set"
  | .acq _ => Str.ofString "acquire"
  | .rel _ => Str.ofString "release"
  | .rest _ => Str.ofString "rest"
  | .wake _ => Str.ofString "wake"
  | .start _ => Str.ofString "start"
  | .chk _ => Str.ofString "check"
  | .awt _ => Str.ofString "await"
  | .mark _ => Str.ofString "mark"
  | .iff _ _ _ => Str.ofString "if"
  | .loop _ _ => Str.ofString "loop"
  | .choose _ => Str.ofString "choose"
def ST.args : ST → List PyData
  | .skip => []
  | .set n v => [.str n, v.data]
  | .acq l => [.str l]
  | .rel l => [.str l]
  | .rest b => [.str b]
  | .wake b => [.str b]
  | .start k => [.str k]
  | .chk c => [c.data]
  | .awt c => [c.data]
  | .mark m => [.str m]
  | .iff c a b => [c.data, .list (datas a), .list (datas b)]
  | .loop c a => [c.data, .list (datas a)]
  | .choose bs => [.list (datass bs)]
theorem st_data (s : ST) : s.data = .tuple (.str s.word :: s.args) := by cases s <;> rfl
theorem st_dp {K : PySem.W.Frag} {H : Hp} {v : V} {s : ST} (h : Dp K H v s.data) : ∃ a xs, v = .ref a ∧ SqT K H a (.str s.word :: xs) ∧ DpAll K H xs s.args := by
  rw [st_data] at h
  obtain ⟨a, ys, rfl, hs, hd⟩ := dp_tup h
  obtain ⟨x, r, rfl, hx, hr⟩ := dpa_cons hd
  rw [dp_str hx] at hs
  exact ⟨a, r, rfl, hs, hr⟩
theorem word_if {s : ST} (h : s.word = Str.ofString "if") : ∃ c a b, s = .iff c a b := by
  cases s <;> first | exact ⟨_, _, _, rfl⟩ | (dsimp only [ST.word] at h; exact absurd h (by decide +kernel))
theorem word_loop {s : ST} (h : s.word = Str.ofString "loop") : ∃ c a, s = .loop c a := by
  cases s <;> first | exact ⟨_, _, rfl⟩ | (dsimp only [ST.word] at h; exact absurd h (by decide +kernel))
theorem word_choose {s : ST} (h : s.word = Str.ofString "choose") : ∃ bs, s = .choose bs := by
  cases s <;> first | exact ⟨_, rfl⟩ | (dsimp only [ST.word] at h; exact absurd h (by decide +kernel))
theorem word_rest {s : ST} (h : s.word = Str.ofString "rest") : ∃ b, s = .rest b := by
  cases s <;> first | exact ⟨_, rfl⟩ | (dsimp only [ST.word] at h; exact absurd h (by decide +kernel))
theorem str_inj {a b : Str} (h : V.str a = V.str b) : a = b := by cases h; rfl
def ST.parts : ST → List (List ST)
  | .iff _ a b => [a, b]
  | .loop _ a => [a]
  | .choose bs => bs
  | _ => []
theorem parts_none {s : ST} (h1 : s.word ≠ Str.ofString "if") (h2 : s.word ≠ Str.ofString "loop") (h3 : s.word ≠ Str.ofString "choose") : s.parts = [] := by
  cases s <;> first | rfl | exact absurd rfl h1 | exact absurd rfl h2 | exact absurd rfl h3
mutual
/-- the number of statements in it -/
def tot1 : ST → Nat
  | .iff _ a b => 1 + (totL a + totL b)
  | .loop _ a => 1 + totL a
  | .choose bs => 1 + totLL bs
  | _ => 1
def totL : List ST → Nat
  | [] => 0
  | s :: r => tot1 s + totL r
def totLL : List (List ST) → Nat
  | [] => 0
  | b :: r => totL b + totLL r
end
mutual
/-- rests in it -/
def rst1 : ST → Nat
  | .rest _ => 1
  | .iff _ a b => rstL a + rstL b
  | .loop _ a => rstL a
  | .choose bs => rstLL bs
  | _ => 0
def rstL : List ST → Nat
  | [] => 0
  | s :: r => rst1 s + rstL r
def rstLL : List (List ST) → Nat
  | [] => 0
  | b :: r => rstL b + rstLL r
end
mutual
/-- how deep it is -/
def dep1 : ST → Nat
  | .iff _ a b => max (depL a) (depL b) + 1
  | .loop _ a => depL a + 1
  | .choose bs => depLL bs + 1
  | _ => 0
def depL : List ST → Nat
  | [] => 0
  | s :: r => max (dep1 s) (depL r)
def depLL : List (List ST) → Nat
  | [] => 0
  | b :: r => max (depL b) (depLL r)
end
mutual
/-- the lists in it are short -/
def sht1 : ST → Prop
  | .iff _ a b => shtL a ∧ shtL b
  | .loop _ a => shtL a
  | .choose bs => bs.length ≤ 6 ∧ shtLL bs
  | _ => True
def shtL : List ST → Prop
  | [] => True
  | s :: r => sht1 s ∧ r.length < 2000 ∧ shtL r
def shtLL : List (List ST) → Prop
  | [] => True
  | b :: r => shtL b ∧ shtLL r
end
theorem tot_parts (s : ST) : tot1 s = 1 + totLL s.parts := by
  cases s <;> simp [tot1, ST.parts, totLL]
theorem rst_parts (s : ST) : rst1 s = (if s.word = Str.ofString "rest" then 1 else 0) + rstLL s.parts := by
  have hi : ¬ Str.ofString "if" = Str.ofString "rest" := by decide +kernel
  have hl : ¬ Str.ofString "loop" = Str.ofString "rest" := by decide +kernel
  have hc : ¬ Str.ofString "choose" = Str.ofString "rest" := by decide +kernel
  cases s <;> first
    | (simp [rst1, ST.parts, rstLL, ST.word, hi, hl, hc]; done)
    | (show 0 = _ + 0; rw [if_neg (by show ¬ _ = _; simp only [ST.word]; decide +kernel)])
    | (show 1 = _ + 0; rw [if_pos rfl])
theorem dep_parts {s : ST} {b : List ST} (h : b ∈ s.parts) : depL b < dep1 s := by
  have ll : ∀ {bs : List (List ST)}, b ∈ bs → depL b ≤ depLL bs := by
    intro bs
    induction bs with
    | nil => intro h; cases h
    | cons c r ih =>
      intro h
      show depL b ≤ max (depL c) (depLL r)
      rcases List.mem_cons.mp h with e | e
      · rw [e]; omega
      · have := ih e; omega
  cases s with
  | iff c x y =>
    show depL b < max (depL x) (depL y) + 1
    rcases List.mem_cons.mp h with e | e
    · rw [e]; omega
    · rw [List.mem_singleton.mp e]; omega
  | loop c x =>
    show depL b < depL x + 1
    rw [List.mem_singleton.mp h]
    omega
  | choose bs =>
    show depL b < depLL bs + 1
    have := ll (bs := bs) h
    omega
  | _ => cases h
theorem dep_mem {s : ST} : ∀ {ss : List ST}, s ∈ ss → dep1 s ≤ depL ss
  | [], h => by cases h
  | x :: r, h => by
    show dep1 s ≤ max (dep1 x) (depL r)
    rcases List.mem_cons.mp h with e | e
    · rw [e]; omega
    · have := dep_mem e; omega
theorem sht_len : ∀ {ss : List ST}, shtL ss → ss.length ≤ 2000
  | [], _ => Nat.zero_le _
  | _ :: r, ⟨_, h, _⟩ => by show r.length + 1 ≤ 2000; omega
theorem sht_mem {s : ST} : ∀ {ss : List ST}, shtL ss → s ∈ ss → sht1 s
  | [], _, h => by cases h
  | x :: r, ⟨h1, _, h2⟩, h => by
    rcases List.mem_cons.mp h with e | e
    · rw [e]; exact h1
    · exact sht_mem h2 e
theorem sht_parts {s : ST} (h : sht1 s) : s.parts.length ≤ 6 ∧ ∀ b ∈ s.parts, shtL b := by
  have ll : ∀ {bs : List (List ST)}, shtLL bs → ∀ b ∈ bs, shtL b := by
    intro bs
    induction bs with
    | nil => intro _ b h; cases h
    | cons c r ih =>
      intro h b hb
      rcases List.mem_cons.mp hb with e | e
      · rw [e]; exact h.1
      · exact ih h.2 b e
  cases s with
  | iff c x y =>
    refine ⟨by show 2 ≤ 6; decide, fun b hb => ?_⟩
    rcases List.mem_cons.mp hb with e | e
    · rw [e]; exact h.1
    · rw [List.mem_singleton.mp e]; exact h.2
  | loop c x =>
    refine ⟨by show 1 ≤ 6; decide, fun b hb => ?_⟩
    rw [List.mem_singleton.mp hb]; exact h
  | choose bs => exact ⟨h.1, ll h.2⟩
  | _ => exact ⟨Nat.zero_le _, fun b hb => by cases hb⟩
theorem totLL_sum : ∀ bs : List (List ST), (totLL bs : Int) = (bs.map fun b => (totL b : Int)).sum
  | [] => rfl
  | b :: r => by
    show ((totL b + totLL r : Nat) : Int) = _
    rw [List.map_cons, List.sum_cons, ← totLL_sum r]
    omega
theorem rstLL_sum : ∀ bs : List (List ST), (rstLL bs : Int) = (bs.map fun b => (rstL b : Int)).sum
  | [] => rfl
  | b :: r => by
    show ((rstL b + rstLL r : Nat) : Int) = _
    rw [List.map_cons, List.sum_cons, ← rstLL_sum r]
    omega
theorem totL_sum : ∀ bs : List ST, (totL bs : Int) = (bs.map fun b => (tot1 b : Int)).sum
  | [] => rfl
  | b :: r => by
    show ((tot1 b + totL r : Nat) : Int) = _
    rw [List.map_cons, List.sum_cons, ← totL_sum r]
    omega
section
variable {P : Program} {w : World} {K : PySem.W.Frag} {mg : Str → Option Value} {base : Heap}
theorem dec_ne {a b : Str} (h : decide (V.str a = V.str b) = false) : a ≠ b := fun e => by
  rw [e, decide_eq_true rfl] at h
  cases h
abbrev s_law_parts : Stmt := topS 20
theorem sc_law_parts : FnScope ["statement"] ["statement"] (defScope s_law_parts) := ⟨rfl, rfl, rfl, by decide +kernel, rfl, by decide +kernel, by decide +kernel⟩
-- _law_parts slots: statement=0 globals: 
def spParts (K : PySem.W.Frag) : Sp := fun vs H Q _ => ∃ (v : V) (s : ST), vs = [v] ∧ Dp K H v s.data ∧ ∀ H' v', Same H H' → Dp K H' v' (.list (datass s.parts)) → Q v' H'
theorem fd_law_parts {f : Addr} {fd : FuncData} (F : Fun K "_law_parts" "_law_parts" s_law_parts f fd) (m : mg "_law_parts" = some (.ref f)) : Fd P w K mg base "_law_parts" ["statement"] 1 (spParts K) := by
  refine ⟨f, fd, F.ok sc_law_parts (fun vs H Q E h => ?_) (fun cdv A outer s H vs Q E hr h => ?_), m, F.kp, F.binds (ps := ["statement"]) fun _ _ _ _ _ _ us hl => match us, hl with | [_], _ => rfl⟩
  · obtain ⟨v, s, rfl, _⟩ := h
    rfl
  obtain ⟨v, s, rfl, hd, q⟩ := h
  obtain ⟨a, xs, rfl, hs, ha⟩ := st_dp hd
  refine ⟨_, (pss_cons (ps_if (pt_cmpR op_eq (pe_ix (ixT K) (pv 0) pe_int (fun _ _ => rfl)) pe_str (nomark _))
 (pss_one (ps_ret (pe_lst (pa_cons (pe_ix (ixT K) (pv 0) pe_int (fun _ _ => rfl)) (pa_cons (pe_ix (ixT K) (pv 0) pe_int (fun _ _ => rfl)) pa_nil)))))
 pss_nil)
 (pss_cons (ps_if (pt_cmpR op_eq (pe_ix (ixT K) (pv 0) pe_int (fun _ _ => rfl)) pe_str (nomark _))
 (pss_one (ps_ret (pe_lst (pa_cons (pe_ix (ixT K) (pv 0) pe_int (fun _ _ => rfl)) pa_nil))))
 pss_nil)
 (pss_cons (ps_if (pt_cmpR op_eq (pe_ix (ixT K) (pv 0) pe_int (fun _ _ => rfl)) pe_str (nomark _))
 (pss_one (ps_ret (pe_ix (ixT K) (pv 0) pe_int (fun _ _ => rfl))))
 pss_nil)
 (pss_one (ps_ret (pe_lst pa_nil)))))), ?_⟩
  refine ifR (b := _) (fun Q q => ⟨_, rfl, _, _, _, _, rfl, rfl, hs, atI_nat (j := 0) rfl, rfl, _, rfl, q⟩) (fun hb => ?_) (fun h1 => ?_)
  · obtain ⟨c, x, y, rfl⟩ := word_if (str_inj (of_decide_eq_true hb))
    obtain ⟨v1, r1, rfl, d1, ha⟩ := dpa_cons ha
    obtain ⟨v2, r2, rfl, d2, ha⟩ := dpa_cons ha
    obtain ⟨v3, r3, rfl, d3, ha⟩ := dpa_cons ha
    exact ⟨_, rfl, _, _, _, _, rfl, rfl, hs, atI_nat (j := 2) rfl, _, rfl, _, _, _, _, rfl, rfl, hs, atI_nat (j := 3) rfl, szc 2, fun p np => q _ _ (same_new np) (.lst (sq upd_same) (.cons (dp_mono (same_new np) d2) (.cons (dp_mono (same_new np) d3) .nil)))⟩
  refine ifR (b := _) (fun Q q => ⟨_, rfl, _, _, _, _, rfl, rfl, hs, atI_nat (j := 0) rfl, rfl, _, rfl, q⟩) (fun hb => ?_) (fun h2 => ?_)
  · obtain ⟨c, x, rfl⟩ := word_loop (str_inj (of_decide_eq_true hb))
    obtain ⟨v1, r1, rfl, d1, ha⟩ := dpa_cons ha
    obtain ⟨v2, r2, rfl, d2, ha⟩ := dpa_cons ha
    exact ⟨_, rfl, _, _, _, _, rfl, rfl, hs, atI_nat (j := 2) rfl, szc 1, fun p np => q _ _ (same_new np) (.lst (sq upd_same) (.cons (dp_mono (same_new np) d2) .nil))⟩
  refine ifR (b := _) (fun Q q => ⟨_, rfl, _, _, _, _, rfl, rfl, hs, atI_nat (j := 0) rfl, rfl, _, rfl, q⟩) (fun hb => ?_) (fun h3 => ?_)
  · obtain ⟨bs, rfl⟩ := word_choose (str_inj (of_decide_eq_true hb))
    obtain ⟨v1, r1, rfl, d1, ha⟩ := dpa_cons ha
    exact ⟨_, rfl, _, _, _, _, rfl, rfl, hs, atI_nat (j := 1) rfl, q _ _ (Same.refl _) d1⟩
  refine ⟨szc 0, fun p np => q _ _ (same_new np) ?_⟩
  rw [parts_none (dec_ne h1) (dec_ne h2) (dec_ne h3)]
  exact .lst (sq upd_same) .nil
abbrev s_law_total : Stmt := topS 21
theorem sc_law_total : FnScope ["body", "statement", "part"] ["body"] (defScope s_law_total) := ⟨rfl, rfl, rfl, by decide +kernel, rfl, by decide +kernel, by decide +kernel⟩
-- _law_total slots: body=0 statement=1(None) part=2(None) globals: sum
def spTot (K : PySem.W.Frag) (n : Nat) : Sp := fun vs H Q _ => ∃ (v : V) (ss : List ST), vs = [v] ∧ Dp K H v (.list (datas ss)) ∧ depL ss < n ∧ shtL ss ∧ ∀ H', Same H H' → Q (.int (totL ss)) H'
theorem fd_law_total {f : Addr} {fd : FuncData} (F : Fun K "_law_total" "_law_total" s_law_total f fd) (m : mg "_law_total" = some (.ref f)) (B : Bt mg) (D_law_parts : Fd P w K mg base "_law_parts" ["statement"] 1 (spParts K)) : ∀ n : Nat, Fd P w K mg base "_law_total" ["body"] (n + 1) (spTot K n)
  | 0 => Fd.none F m (F.binds (ps := ["body"]) fun _ _ _ _ _ _ us hl => match us, hl with | [_], _ => rfl) fun vs H Q E h => by
    obtain ⟨v, ss, _, _, h, _⟩ := h
    exact absurd h (Nat.not_lt_zero _)
  | n + 1 => by
    have D_law_total := fd_law_total F m B D_law_parts n
    refine ⟨f, fd, F.ok sc_law_total (fun vs H Q E h => ?_) (fun cdv A outer s H vs Q E hr h => ?_), m, F.kp, F.binds (ps := ["body"]) fun _ _ _ _ _ _ us hl => match us, hl with | [_], _ => rfl⟩
    · obtain ⟨v, ss, rfl, _⟩ := h
      rfl
    obtain ⟨v, ss, rfl, hd, hn, hsh, q⟩ := h
    obtain ⟨a, xs, rfl, hs, ha⟩ := dp_lst hd
    have hlen := dpa_len ha
    rw [datas_len] at hlen
    have hsl := sht_len hsh
    refine ⟨_, (pss_one (ps_ret (pe_callB (cSum K rfl) (by rfl) B.sum (by decide +kernel) (pa_cons (pe_lc (own := [("statement", 1)]) (g := gName 1) (by rfl) sc_law_total.nd (piL K (pv 0)) (blkOk_by (own := [("statement", 1)]) (N := ["body", "statement", "part"]) (sc := (defScope s_law_total)) (by decide +kernel)) (fun _ _ _ _ _ => (pg_name (i := 1) sc_law_total.nd rfl (Or.inl rfl))) (fun _ _ _ _ _ => pts_nil) (fun _ _ _ _ _ => (pe_op op_add pe_int (pe_callB (cSum K rfl) (by rfl) B.sum (by decide +kernel) (pa_cons (pe_lc (own := [("part", 2)]) (g := gName 2) (by rfl) sc_law_total.nd (piL K (pe_fn D_law_parts (hr.mono (by omega)) rfl (pa_cons (pv 1) pa_nil))) (blkOk_by (own := [("part", 2)]) (N := ["body", "statement", "part"]) (sc := (relS ⟨.function, [(".0", .local), ("statement", .local), ("sum", .globalImplicit), ("_law_parts", .globalImplicit)], false, false, []⟩ (defScope s_law_total))) (by decide +kernel)) (fun _ _ _ _ _ => (pg_name (i := 2) sc_law_total.nd rfl (Or.inl rfl))) (fun _ _ _ _ _ => pts_nil) (fun _ _ _ _ _ => (pe_fn D_law_total hr rfl (pa_cons (pv 2) pa_nil)))) pa_nil))))) pa_nil)))), ?_⟩
    refine ⟨_, rfl, a, rfl, ⟨_, hs⟩, fun D nD => lc_list (xs := xs) (fun i H' => Same H H' ∧ H' D = some (.lst (((ss.take i).map fun s => (tot1 s : Int)).map V.int))) ⟨same_new nD, upd_same⟩ (fun i H' _ p => p.1.seq hs) ?_ ?_⟩
    · rintro i x H' hx ⟨sm, eD⟩
      obtain ⟨d, hdi, dx⟩ := dpa_at ha hx
      rw [datas_map, List.getElem?_map] at hdi
      obtain ⟨s, hsi, rfl⟩ : ∃ s, ss[i]? = some s ∧ s.data = d := by
        cases e : ss[i]? with
        | none => rw [e] at hdi; cases hdi
        | some s => rw [e] at hdi; exact ⟨s, rfl, Option.some.inj hdi⟩
      have hsm : s ∈ ss := List.mem_of_getElem? hsi
      have hds := dep_mem hsm
      have hss := sht_mem hsh hsm
      have hpp := sht_parts hss
      refine ⟨rfl, _, rfl, x, s, rfl, dp_mono sm dx, fun H3 v' s3 d3 => ?_⟩
      obtain ⟨a', ys, rfl, hs', ha'⟩ := dp_lst d3
      have hl2 := dpa_len ha'
      rw [datass_len] at hl2
      refine ⟨a', rfl, ⟨_, hs'⟩, fun D2 n2 => lc_list (xs := ys) (fun j H4 => Same H3 H4 ∧ H4 D2 = some (.lst (((s.parts.take j).map fun b => (totL b : Int)).map V.int))) ⟨same_new n2, upd_same⟩ (fun i H' _ p => p.1.seq hs') ?_ ?_⟩
      · rintro j y H4 hy ⟨sm4, eD2⟩
        obtain ⟨d, hdj, dy⟩ := dpa_at ha' hy
        rw [datass_map, List.getElem?_map] at hdj
        obtain ⟨b, hbj, rfl⟩ : ∃ b, s.parts[j]? = some b ∧ PyData.list (datas b) = d := by
          cases e : s.parts[j]? with
          | none => rw [e] at hdj; cases hdj
          | some s => rw [e] at hdj; exact ⟨s, rfl, Option.some.inj hdj⟩
        have hbm : b ∈ s.parts := List.mem_of_getElem? hbj
        have hdb := dep_parts hbm
        refine ⟨rfl, _, rfl, y, b, rfl, dp_mono sm4 dy, by omega, hpp.2 b hbm, fun H5 s5 => ⟨_, s5 _ _ eD2, ?_, Same.mut (sm4.trans s5) n2, ?_⟩⟩
        · rw [List.length_map, List.length_map, List.length_take]
          exact szl (by omega)
        · rw [upd_same, take_snoc hbj, List.map_append, List.map_append]
          rfl
      · rintro H4 ⟨sm4, eD2⟩
        rw [List.take_of_length_le (by omega)] at eD2
        refine ⟨D2, _, rfl, sq eD2, _, _, rfl, rfl, _, sm4 _ _ (s3 _ _ eD), ?_, Same.mut ((sm.trans s3).trans sm4) nD, ?_⟩
        · rw [List.length_map, List.length_map, List.length_take]
          exact szl (by omega)
        · rw [upd_same, take_snoc hsi, List.map_append, List.map_append, ← totLL_sum]
          have e : (1 : Int) + (totLL s.parts : Int) = (tot1 s : Int) := by rw [tot_parts]; omega
          show some (HO.lst (_ ++ [V.int (1 + (totLL s.parts : Int))])) = _
          rw [e]
          rfl
    · rintro H' ⟨sm, eD⟩
      rw [List.take_of_length_le (by omega)] at eD
      refine ⟨D, _, rfl, sq eD, ?_⟩
      rw [← totL_sum]
      exact q H' sm
end
section
variable {P : Program} {w : World} {K : PySem.W.Frag} {mg : Str → Option Value} {base : Heap}
theorem data_at {ss : List ST} {i : Nat} {d : PyData} (h : (datas ss)[i]? = some d) : ∃ s, ss[i]? = some s ∧ s.data = d := by
  rw [datas_map, List.getElem?_map] at h
  cases e : ss[i]? with
  | none => rw [e] at h; cases h
  | some s => rw [e] at h; exact ⟨s, rfl, Option.some.inj h⟩
theorem datass_at {bs : List (List ST)} {i : Nat} {d : PyData} (h : (datass bs)[i]? = some d) : ∃ b, bs[i]? = some b ∧ PyData.list (datas b) = d := by
  rw [datass_map, List.getElem?_map] at h
  cases e : bs[i]? with
  | none => rw [e] at h; cases h
  | some s => rw [e] at h; exact ⟨s, rfl, Option.some.inj h⟩
abbrev s_law_rests : Stmt := topS 22
theorem sc_law_rests : FnScope ["body", "found", "statement", "part"] ["body"] (defScope s_law_rests) := ⟨rfl, rfl, rfl, by decide +kernel, rfl, by decide +kernel, by decide +kernel⟩
-- _law_rests slots: body=0 found=1 statement=2 part=3(None) globals: int sum _law_parts
def spRst (K : PySem.W.Frag) (n : Nat) : Sp := fun vs H Q _ => ∃ (v : V) (ss : List ST), vs = [v] ∧ Dp K H v (.list (datas ss)) ∧ depL ss < n ∧ shtL ss ∧ ∀ H', Same H H' → Q (.int (rstL ss)) H'
theorem rstL_app : ∀ a b : List ST, rstL (a ++ b) = rstL a + rstL b
  | [], b => (Nat.zero_add _).symm
  | s :: r, b => by
    show rst1 s + rstL (r ++ b) = rst1 s + rstL r + rstL b
    rw [rstL_app r b]
    omega
theorem totL_app : ∀ a b : List ST, totL (a ++ b) = totL a + totL b
  | [], b => (Nat.zero_add _).symm
  | s :: r, b => by
    show tot1 s + totL (r ++ b) = tot1 s + totL r + totL b
    rw [totL_app r b]
    omega
theorem fd_law_rests {f : Addr} {fd : FuncData} (F : Fun K "_law_rests" "_law_rests" s_law_rests f fd) (m : mg "_law_rests" = some (.ref f)) (B : Bt mg) (D_law_parts : Fd P w K mg base "_law_parts" ["statement"] 1 (spParts K)) : ∀ n : Nat, Fd P w K mg base "_law_rests" ["body"] (n + 1) (spRst K n)
  | 0 => Fd.none F m (F.binds (ps := ["body"]) fun _ _ _ _ _ _ us hl => match us, hl with | [_], _ => rfl) fun vs H Q E h => by
    obtain ⟨v, ss, _, _, h, _⟩ := h
    exact absurd h (Nat.not_lt_zero _)
  | n + 1 => by
    have D_law_rests := fd_law_rests F m B D_law_parts n
    refine ⟨f, fd, F.ok sc_law_rests (fun vs H Q E h => ?_) (fun cdv A outer s H vs Q E hr h => ?_), m, F.kp, F.binds (ps := ["body"]) fun _ _ _ _ _ _ us hl => match us, hl with | [_], _ => rfl⟩
    · obtain ⟨v, ss, rfl, _⟩ := h
      rfl
    obtain ⟨v, ss, rfl, hd, hn, hsh, q⟩ := h
    obtain ⟨a, xs, rfl, hs, ha⟩ := dp_lst hd
    have hlen := dpa_len ha
    rw [datas_len] at hlen
    refine ⟨_, (pss_cons (ps_set (i := 1) sc_law_rests.nd rfl (Or.inl rfl) pe_int)
 (pss_cons (ps_for PassesOwn.never rfl (piL K (pv 0)) (pg_name (i := 2) sc_law_rests.nd rfl (Or.inl rfl))
 (pss_one (ps_set (i := 1) sc_law_rests.nd rfl (Or.inl rfl) (pe_op op_add (pe_op op_add (pv 1) (pe_callTy call_int1 (by rfl) B.int (by decide +kernel) (pa_cons (pe_cmpR op_eq (pe_ix (ixT K) (pv 2) pe_int (fun _ _ => rfl)) pe_str (nomark _)) pa_nil))) (pe_callB (cSum K rfl) (by rfl) B.sum (by decide +kernel) (pa_cons (pe_lc (own := [("part", 3)]) (g := gName 3) (by rfl) sc_law_rests.nd (piL K (pe_fn D_law_parts (hr.mono (by omega)) rfl (pa_cons (pv 2) pa_nil))) (blkOk_by (own := [("part", 3)]) (N := ["body", "found", "statement", "part"]) (sc := (defScope s_law_rests)) (by decide +kernel)) (fun _ _ _ _ _ => (pg_name (i := 3) sc_law_rests.nd rfl (Or.inl rfl))) (fun _ _ _ _ _ => pts_nil) (fun _ _ _ _ _ => (pe_fn D_law_rests hr rfl (pa_cons (pv 3) pa_nil)))) pa_nil))))))
 (pss_one (ps_ret (pv 1))))), ?_⟩
    refine ⟨_, rfl, a, rfl, ⟨_, hs⟩, for_list (xs := xs) (fun i σ' H' => ∃ y2 : Option V, σ' = [some (.ref a), some (.int (rstL (ss.take i))), y2, none] ∧ Same H H') ⟨none, rfl, Same.refl _⟩ (fun i σ' H' _ p => ?_) ?_ ?_⟩
    · obtain ⟨_, _, sm⟩ := p
      exact sm.seq hs
    · rintro i x σ' H' hx ⟨y2, rfl, sm⟩
      obtain ⟨d, hdi, dx⟩ := dpa_at ha hx
      obtain ⟨s, hsi, rfl⟩ := data_at hdi
      have hsm : s ∈ ss := List.mem_of_getElem? hsi
      have hds := dep_mem hsm
      have hpp := sht_parts (sht_mem hsh hsm)
      have dx' := dp_mono sm dx
      obtain ⟨b, ys, rfl, hb, _⟩ := st_dp dx'
      refine ⟨_, rfl, _, rfl, _, _, _, _, rfl, rfl, hb, atI_nat (j := 0) rfl, rfl, .inr ⟨_, rfl, _, _, rfl, rfl, ?_⟩⟩
      refine ⟨_, rfl, _, s, rfl, dx', fun H3 v' s3 d3 => ?_⟩
      obtain ⟨a', ys, rfl, hs', ha'⟩ := dp_lst d3
      have hl2 := dpa_len ha'
      rw [datass_len] at hl2
      refine ⟨a', rfl, ⟨_, hs'⟩, fun D2 n2 => lc_list (xs := ys) (fun j H4 => Same H3 H4 ∧ H4 D2 = some (.lst (((s.parts.take j).map fun b => (rstL b : Int)).map V.int))) ⟨same_new n2, upd_same⟩ (fun i H' _ p => p.1.seq hs') ?_ ?_⟩
      · rintro j y H4 hy ⟨sm4, eD2⟩
        obtain ⟨d, hdj, dy⟩ := dpa_at ha' hy
        obtain ⟨b, hbj, rfl⟩ := datass_at hdj
        have hbm : b ∈ s.parts := List.mem_of_getElem? hbj
        have hdb := dep_parts hbm
        refine ⟨rfl, _, rfl, y, b, rfl, dp_mono sm4 dy, by omega, hpp.2 b hbm, fun H5 s5 => ⟨_, s5 _ _ eD2, ?_, Same.mut (sm4.trans s5) n2, ?_⟩⟩
        · rw [List.length_map, List.length_map, List.length_take]
          exact szl (by omega)
        · rw [upd_same, take_snoc hbj, List.map_append, List.map_append]
          rfl
      · rintro H4 ⟨sm4, eD2⟩
        rw [List.take_of_length_le (by omega)] at eD2
        refine ⟨D2, _, rfl, sq eD2, _, _, rfl, rfl, some (.ref b), ?_, (sm.trans s3).trans sm4⟩
        rw [← rstLL_sum, take_snoc hsi, rstL_app]
        have e : (rstL (ss.take i) : Int) + (if (decide (V.str s.word = V.str (Str.ofString "rest"))) = true then 1 else 0) + (rstLL s.parts : Int) = ((rstL (ss.take i) + (rst1 s + 0) : Nat) : Int) := by
          rw [rst_parts]
          by_cases h : s.word = Str.ofString "rest"
          · rw [h, decide_eq_true rfl, if_pos rfl, if_pos rfl]
            omega
          · rw [if_neg h, if_neg (by intro z; exact h (str_inj (of_decide_eq_true z)))]
            omega
        show [some (V.ref a), some (V.int (_ + (if _ then _ else _) + _)), _, _] = _
        rw [e]
        rfl
    · rintro σ' H' ⟨y2, rfl, sm⟩
      rw [List.take_of_length_le (by omega)]
      exact ⟨_, rfl, q H' sm⟩
structure VarT where
  nm : Str
  lo : Int
  hi : Int
  fi : Int
def VarT.data (v : VarT) : PyData := .tuple [.str v.nm, .int v.lo, .int v.hi, .int v.fi]
structure VarT.Ok (v : VarT) : Prop where
  l0 : -99 ≤ v.lo
  l1 : v.lo ≤ v.fi
  l2 : v.fi ≤ v.hi
  l3 : v.hi ≤ 99
theorem var_dp {K : PySem.W.Frag} {H : Hp} {v : V} {x : VarT} (h : Dp K H v x.data) : ∃ a, v = .ref a ∧ SqT K H a [.str x.nm, .int x.lo, .int x.hi, .int x.fi] := by
  obtain ⟨a, xs, rfl, hs, ha⟩ := dp_tup h
  obtain ⟨v1, r1, rfl, d1, ha⟩ := dpa_cons ha
  obtain ⟨v2, r2, rfl, d2, ha⟩ := dpa_cons ha
  obtain ⟨v3, r3, rfl, d3, ha⟩ := dpa_cons ha
  obtain ⟨v4, r4, rfl, d4, ha⟩ := dpa_cons ha
  rw [dp_str d1, dp_int d2, dp_int d3, dp_int d4, dpa_nil ha] at hs
  exact ⟨a, rfl, hs⟩
theorem dp_var {K : PySem.W.Frag} {H : Hp} {a : Addr} {x : VarT} (h : SqT K H a [.str x.nm, .int x.lo, .int x.hi, .int x.fi]) : Dp K H (.ref a) x.data :=
  .tup h (.cons (.str _) (.cons (.int _) (.cons (.int _) (.cons (.int _) .nil))))
abbrev s_law_variable : Stmt := topS 23
theorem sc_law_variable : FnScope ["name", "first", "size", "chosen", "least"] ["name", "first", "size", "chosen"] (defScope s_law_variable) := ⟨rfl, rfl, rfl, by decide +kernel, rfl, by decide +kernel, by decide +kernel⟩
-- _law_variable slots: name=0 first=1 size=2 chosen=3 least=4 globals: int
def spVar (K : PySem.W.Frag) : Sp := fun vs H Q _ => ∃ (nm : Str) (f z c : Int), vs = [.str nm, .int f, .int z, .int c] ∧ 1 ≤ z ∧ z ≤ 100 ∧ ∀ H' v (x : VarT), Same H H' → Dp K (Nw H H') v x.data → x.Ok → x.nm = nm → x.hi - x.lo + 1 = z → Q v H'
theorem fd_law_variable {f : Addr} {fd : FuncData} (F : Fun K "_law_variable" "_law_variable" s_law_variable f fd) (m : mg "_law_variable" = some (.ref f)) (B : Bt mg) : Fd P w K mg base "_law_variable" ["name", "first", "size", "chosen"] 1 (spVar K) := by
  refine ⟨f, fd, F.ok sc_law_variable (fun vs H Q E h => ?_) (fun cdv A outer s H vs Q E hr h => ?_), m, F.kp, F.binds (ps := ["name", "first", "size", "chosen"]) fun _ _ _ _ _ _ us hl => match us, hl with | [_, _, _, _], _ => rfl⟩
  · obtain ⟨nm, f, z, c, rfl, _⟩ := h
    rfl
  obtain ⟨nm, f, z, c, rfl, z1, z2, q⟩ := h
  refine ⟨_, (pss_cons (ps_set (i := 4) sc_law_variable.nd rfl (Or.inl rfl) (pe_op op_sub (pe_op op_mod (pe_callTy call_int1 (by rfl) B.int (by decide +kernel) (pa_cons (pv 1) pa_nil)) (pe_op op_sub pe_int (pv 2))) pe_int))
 (pss_one (ps_ret (pe_tup (pa_cons (pv 0) (pa_cons (pv 4) (pa_cons (pe_op op_sub (pe_op op_add (pv 4) (pv 2)) pe_int) (pa_cons (pe_op op_add (pv 4) (pe_op op_mod (pe_callTy call_int1 (by rfl) B.int (by decide +kernel) (pa_cons (pv 3) pa_nil)) (pv 2))) pa_nil)))))))), ?_⟩
  have hp : (0 : Int) < 200 - z := by omega
  have hz : (0 : Int) < z := by omega
  have m0 := Int.emod_nonneg f (show (200 - z : Int) ≠ 0 by omega)
  have m1 := Int.emod_lt_of_pos f hp
  have c0 := Int.emod_nonneg c (show (z : Int) ≠ 0 by omega)
  have c1 := Int.emod_lt_of_pos c hz
  refine ⟨_, rfl, .inl ⟨_, rfl, _, rfl, _, _, rfl, rfl, _, _, rfl, rfl, hp, _, _, rfl, rfl, ?_⟩⟩
  refine ⟨_, rfl, _, rfl, _, rfl, _, rfl, _, _, rfl, rfl, _, _, rfl, rfl, _, rfl, _, rfl, .inl ⟨_, rfl, _, rfl, _, _, rfl, rfl, hz, _, _, rfl, rfl, szc 4, fun p np => ?_⟩⟩
  exact q _ _ ⟨nm, f % (200 - z) - 99, f % (200 - z) - 99 + z - 1, f % (200 - z) - 99 + c % z⟩ (same_new np) (dp_var (st ((nw_at np).trans upd_same))) ⟨by show -99 ≤ f % (200 - z) - 99; omega, by show f % (200 - z) - 99 ≤ f % (200 - z) - 99 + c % z; omega, by show f % (200 - z) - 99 + c % z ≤ f % (200 - z) - 99 + z - 1; omega, by show f % (200 - z) - 99 + z - 1 ≤ 99; omega⟩ rfl (by show f % (200 - z) - 99 + z - 1 - (f % (200 - z) - 99) + 1 = z; omega)
/-- a kind of threads -/
structure KT where
  nm : Str
  cnt : Option Int
  locs : List VarT
  body : List ST
def cntData : Option Int → PyData
  | none => .none
  | some i => .int i
def KT.data (k : KT) : PyData := .tuple [.str k.nm, cntData k.cnt, .list (k.locs.map VarT.data), .list (datas k.body)]
def roomI (r : Int) : List VarT → Int
  | [] => r
  | v :: t => roomI (r * (v.hi - v.lo + 1)) t
theorem roomI_snoc : ∀ (l : List VarT) (r : Int) (v : VarT), roomI r (l ++ [v]) = roomI r l * (v.hi - v.lo + 1)
  | [], _, _ => rfl
  | x :: t, r, v => roomI_snoc t _ v
theorem roomI_ge : ∀ (l : List VarT) (r : Int), 0 ≤ r → (∀ v ∈ l, v.Ok) → r ≤ roomI r l
  | [], _, _, _ => Int.le_refl _
  | x :: t, r, h0, h => by
    have hx := h x List.mem_cons_self
    have h1 : 1 ≤ x.hi - x.lo + 1 := by have := hx.l1; have := hx.l2; omega
    have h2 : r ≤ r * (x.hi - x.lo + 1) := by
      have := Int.mul_le_mul_of_nonneg_left h1 h0
      rw [Int.mul_one] at this
      exact this
    exact Int.le_trans h2 (roomI_ge t _ (Int.le_trans h0 h2) fun v hv => h v (List.mem_cons_of_mem _ hv))
def KT.room (k : KT) : Int := roomI ((totL k.body : Int) + 2 + (rstL k.body : Int)) k.locs
theorem kt_dp {K : PySem.W.Frag} {H : Hp} {v : V} {k : KT} (h : Dp K H v k.data) : ∃ a b c cv xs ys, v = .ref a ∧ SqT K H a [.str k.nm, cv, .ref b, .ref c] ∧ Dp K H cv (cntData k.cnt) ∧ SqL K H b xs ∧ DpAll K H xs (k.locs.map VarT.data) ∧ SqL K H c ys ∧ DpAll K H ys (datas k.body) := by
  obtain ⟨a, xs, rfl, hs, ha⟩ := dp_tup h
  obtain ⟨v1, r1, rfl, d1, h1⟩ := dpa_cons ha
  obtain ⟨v2, r2, rfl, d2, h2⟩ := dpa_cons h1
  obtain ⟨v3, r3, rfl, d3, h3⟩ := dpa_cons h2
  obtain ⟨v4, r4, rfl, d4, h4⟩ := dpa_cons h3
  obtain rfl := dpa_nil h4
  obtain ⟨b, ys, rfl, hb, hyb⟩ := dp_lst d3
  obtain ⟨c, zs, rfl, hc, hzc⟩ := dp_lst d4
  rw [dp_str d1] at hs
  exact ⟨a, b, c, v2, ys, zs, rfl, hs, d2, hb, hyb, hc, hzc⟩
abbrev s_law_room : Stmt := topS 24
theorem sc_law_room : FnScope ["kind", "room", "variable"] ["kind"] (defScope s_law_room) := ⟨rfl, rfl, rfl, by decide +kernel, rfl, by decide +kernel, by decide +kernel⟩
-- _law_room slots: kind=0 room=1 variable=2 globals: _law_total _law_rests
def spRoom (K : PySem.W.Frag) (n : Nat) : Sp := fun vs H Q _ => ∃ (v : V) (k : KT), vs = [v] ∧ Dp K H v k.data ∧ depL k.body < n ∧ shtL k.body ∧ (∀ x ∈ k.locs, x.Ok) ∧ ∀ H', Same H H' → Q (.int k.room) H'
theorem fd_law_room {f : Addr} {fd : FuncData} (F : Fun K "_law_room" "_law_room" s_law_room f fd) (m : mg "_law_room" = some (.ref f)) (B : Bt mg) {n : Nat} (D_law_total : Fd P w K mg base "_law_total" ["body"] (n + 1) (spTot K n)) (D_law_rests : Fd P w K mg base "_law_rests" ["body"] (n + 1) (spRst K n)) : Fd P w K mg base "_law_room" ["kind"] (n + 2) (spRoom K n) := by
  refine ⟨f, fd, F.ok sc_law_room (fun vs H Q E h => ?_) (fun cdv A outer s H vs Q E hr h => ?_), m, F.kp, F.binds (ps := ["kind"]) fun _ _ _ _ _ _ us hl => match us, hl with | [_], _ => rfl⟩
  · obtain ⟨v, k, rfl, _⟩ := h
    rfl
  obtain ⟨v, k, rfl, hd, hn, hsh, hv, q⟩ := h
  obtain ⟨a, b, c, cv, xs, ys, rfl, hs, hcv, hb, hxs, hc, hys⟩ := kt_dp hd
  have hbody : Dp K H (.ref c) (.list (datas k.body)) := .lst hc hys
  refine ⟨_, (pss_cons (ps_set (i := 1) sc_law_room.nd rfl (Or.inl rfl) (pe_op op_add (pe_op op_add (pe_fn D_law_total hr rfl (pa_cons (pe_ix (ixT K) (pv 0) pe_int (fun _ _ => rfl)) pa_nil)) pe_int) (pe_fn D_law_rests hr rfl (pa_cons (pe_ix (ixT K) (pv 0) pe_int (fun _ _ => rfl)) pa_nil))))
 (pss_cons (ps_for PassesOwn.never rfl (piL K (pe_ix (ixT K) (pv 0) pe_int (fun _ _ => rfl))) (pg_name (i := 2) sc_law_room.nd rfl (Or.inl rfl))
 (pss_one (ps_set (i := 1) sc_law_room.nd rfl (Or.inl rfl) (pe_op op_mul (pv 1) (pe_op op_add (pe_op op_sub (pe_ix (ixT K) (pv 2) pe_int (fun _ _ => rfl)) (pe_ix (ixT K) (pv 2) pe_int (fun _ _ => rfl))) pe_int)))))
 (pss_one (ps_ret (pv 1))))), ?_⟩
  refine ⟨_, rfl, _, _, _, _, rfl, rfl, hs, atI_nat (j := 3) rfl, _, k.body, rfl, hbody, hn, hsh, fun H1 s1 => ⟨_, _, rfl, rfl, ?_⟩⟩
  refine ⟨_, rfl, _, _, _, _, rfl, rfl, Same.seqT s1 hs, atI_nat (j := 3) rfl, _, k.body, rfl, dp_mono s1 hbody, hn, hsh, fun H2 s2 => ⟨_, _, rfl, rfl, ?_⟩⟩
  have sm := s1.trans s2
  have hb2 := sm.seq hb
  have hlen := dpa_len hxs
  rw [List.length_map] at hlen
  refine ⟨_, rfl, _, _, _, _, rfl, rfl, Same.seqT sm hs, atI_nat (j := 2) rfl, b, rfl, ⟨_, hb2⟩, for_list (xs := xs) (fun i σ' H' => ∃ y2 : Option V, σ' = [some (.ref a), some (.int (roomI ((totL k.body : Int) + 2 + (rstL k.body : Int)) (k.locs.take i))), y2] ∧ H2 = H') ⟨none, rfl, rfl⟩ (fun i σ' H' _ p => ?_) ?_ ?_⟩
  · obtain ⟨_, _, rfl⟩ := p
    exact hb2
  · rintro i x σ' H' hx ⟨y2, rfl, rfl⟩
    obtain ⟨d, hdi, dx⟩ := dpa_at hxs hx
    rw [List.getElem?_map] at hdi
    obtain ⟨vt, hvi, rfl⟩ : ∃ s, k.locs[i]? = some s ∧ s.data = d := by
      cases e : k.locs[i]? with
      | none => rw [e] at hdi; cases hdi
      | some s => rw [e] at hdi; exact ⟨s, rfl, Option.some.inj hdi⟩
    obtain ⟨t, rfl, ht⟩ := var_dp (dp_mono sm dx)
    have ok := hv vt (List.mem_of_getElem? hvi)
    have o1 := ok.l0
    have o2 := ok.l1
    have o3 := ok.l2
    have o4 := ok.l3
    refine ⟨_, rfl, _, rfl, _, _, _, _, rfl, rfl, ht, atI_nat (j := 2) rfl, _, rfl, _, _, _, _, rfl, rfl, ht, atI_nat (j := 1) rfl, _, _, rfl, rfl, _, _, rfl, rfl, _, _, rfl, rfl, .inr ⟨by omega, by omega⟩, some (.ref t), ?_, rfl⟩
    rw [take_snoc hvi, roomI_snoc]
    rfl
  · rintro σ' H' ⟨y2, rfl, rfl⟩
    rw [List.take_of_length_le (by omega)]
    exact ⟨_, rfl, q _ sm⟩
end
theorem gb_mem {e : GE} {h : List Str} {d : Nat} : ∀ {ss : List ST}, GB e h d ss → ∀ s ∈ ss, (∃ l, s = .acq l) ∨ (∃ l, s = .rel l) ∨ ∃ h', GS e h' d s
  | _, .nil, _, hs => by cases hs
  | _, .cons g r, s, hs => by
    rcases List.mem_cons.mp hs with e | e
    · rw [e]; exact .inr (.inr ⟨_, g⟩)
    · exact gb_mem r s e
  | _, .lock _ _ b r, s, hs => by
    rcases List.mem_cons.mp hs with e | e
    · exact .inl ⟨_, e⟩
    · rcases List.mem_append.mp e with e | e
      · exact gb_mem b s e
      · rcases List.mem_cons.mp e with e | e
        · exact .inr (.inl ⟨_, e⟩)
        · exact gb_mem r s e
theorem sht_of : ∀ {ss : List ST}, ss.length ≤ 2000 → (∀ s ∈ ss, sht1 s) → shtL ss
  | [], _, _ => trivial
  | x :: r, h, hs => by
    have hl : r.length + 1 ≤ 2000 := h
    exact ⟨hs x List.mem_cons_self, by omega, sht_of (by omega) fun s hm => hs s (List.mem_cons_of_mem _ hm)⟩
theorem shtLL_of : ∀ {bs : List (List ST)}, (∀ b ∈ bs, shtL b) → shtLL bs
  | [], _ => trivial
  | b :: r, h => ⟨h b List.mem_cons_self, shtLL_of fun c hc => h c (List.mem_cons_of_mem _ hc)⟩
theorem gs_sht {e : GE} : ∀ (d : Nat) {h : List Str} {s : ST}, GS e h d s → sht1 s
  | d, h, s, g => by
    have body : ∀ {d' : Nat} {h' : List Str} {b : List ST}, d' < d → GB e h' d' b → b.length ≤ 1000 → shtL b := fun hd gb hl =>
      sht_of (by omega) fun s hs => by
        rcases gb_mem gb s hs with ⟨l, rfl⟩ | ⟨l, rfl⟩ | ⟨h'', g'⟩
        · trivial
        · trivial
        · exact gs_sht _ g'
    cases g with
    | iff hc ha hb la lb => exact ⟨body (Nat.lt_succ_self _) ha la, body (Nat.lt_succ_self _) hb lb⟩
    | loop hc ha la => exact body (Nat.lt_succ_self _) ha la
    | choose hn hl hb lb => exact ⟨hl, shtLL_of fun b hm => body (Nat.lt_succ_self _) (hb b hm) (lb b hm)⟩
    | _ => trivial
theorem gb_sht {e : GE} {h : List Str} {d : Nat} {ss : List ST} (g : GB e h d ss) (hl : ss.length ≤ 2000) : shtL ss :=
  sht_of hl fun s hs => by
    rcases gb_mem g s hs with ⟨l, rfl⟩ | ⟨l, rfl⟩ | ⟨h'', g'⟩
    · trivial
    · trivial
    · exact gs_sht _ g'
theorem depL_le {n : Nat} : ∀ {ss : List ST}, (∀ s ∈ ss, dep1 s ≤ n) → depL ss ≤ n
  | [], _ => Nat.zero_le _
  | x :: r, h => by
    have h1 := h x List.mem_cons_self
    have h2 := depL_le fun s hs => h s (List.mem_cons_of_mem _ hs)
    show max (dep1 x) (depL r) ≤ n
    omega
theorem depLL_le {n : Nat} : ∀ {bs : List (List ST)}, (∀ b ∈ bs, depL b ≤ n) → depLL bs ≤ n
  | [], _ => Nat.zero_le _
  | x :: r, h => by
    have h1 := h x List.mem_cons_self
    have h2 := depLL_le fun s hs => h s (List.mem_cons_of_mem _ hs)
    show max (depL x) (depLL r) ≤ n
    omega
theorem gs_dep {e : GE} : ∀ (d : Nat) {h : List Str} {s : ST}, GS e h d s → dep1 s ≤ d
  | d, h, s, g => by
    have body : ∀ {d' : Nat} {h' : List Str} {b : List ST}, d' < d → GB e h' d' b → depL b ≤ d' := fun hd gb =>
      depL_le fun s hs => by
        rcases gb_mem gb s hs with ⟨l, rfl⟩ | ⟨l, rfl⟩ | ⟨h'', g'⟩
        · exact Nat.zero_le _
        · exact Nat.zero_le _
        · exact gs_dep _ g'
    cases g with
    | @iff _ d' c a b hc ha hb la lb =>
      have h1 := body (Nat.lt_succ_self _) ha
      have h2 := body (Nat.lt_succ_self _) hb
      show max (depL a) (depL b) + 1 ≤ d' + 1
      omega
    | loop hc ha la =>
      have h1 := body (Nat.lt_succ_self _) ha
      exact Nat.succ_le_succ h1
    | choose hn hl hb lb => exact Nat.succ_le_succ (depLL_le fun b hm => body (Nat.lt_succ_self _) (hb b hm))
    | _ => exact Nat.zero_le _
theorem gb_dep {e : GE} {h : List Str} {d : Nat} {ss : List ST} (g : GB e h d ss) : depL ss ≤ d :=
  depL_le fun s hs => by
    rcases gb_mem g s hs with ⟨l, rfl⟩ | ⟨l, rfl⟩ | ⟨h'', g'⟩
    · exact Nat.zero_le _
    · exact Nat.zero_le _
    · exact gs_dep _ g'
/-- the tuple of names -/
def WOk (K : PySem.W.Frag) (H : Hp) (a : Addr) (e : GE) : Prop := ∃ a0 a1 a2 a3 a4, SqT K H a [.ref a0, .ref a1, .ref a2, .ref a3, .ref a4] ∧ SqL K H a0 (e.vars.map V.str) ∧ SqL K H a1 (e.locks.map V.str) ∧ SqL K H a2 (e.bells.map V.str) ∧ SqL K H a3 (e.titles.map V.str) ∧ SqL K H a4 (e.names.map V.str)
theorem WOk.mono {K : PySem.W.Frag} {H H' : Hp} {a : Addr} {e : GE} (s : Same H H') : WOk K H a e → WOk K H' a e
  | ⟨a0, a1, a2, a3, a4, ht, h0, h1, h2, h3, h4⟩ => ⟨a0, a1, a2, a3, a4, Same.seqT s ht, s.seq h0, s.seq h1, s.seq h2, s.seq h3, s.seq h4⟩
structure GE.Ok (e : GE) : Prop where
  few : e.locks.length ≤ 6
  vfew : e.vars.length ≤ 10
  title : 0 < e.titles.length
  name : 0 < e.names.length
/-- how many locks are free -/
def freeN (e : GE) (h : List Str) : Nat := (e.locks.filter fun l => decide (l ∉ h)).length
theorem filter_le {α : Type} (p q : α → Bool) (h : ∀ x, p x = true → q x = true) : ∀ l : List α, (l.filter p).length ≤ (l.filter q).length
  | [] => Nat.le_refl _
  | x :: r => by
    have ih := filter_le p q h r
    rw [List.filter_cons, List.filter_cons]
    cases hp : p x with
    | true =>
      rw [h x hp]
      show (List.filter p r).length + 1 ≤ (List.filter q r).length + 1
      omega
    | false =>
      cases hq : q x with
      | true =>
        show (List.filter p r).length ≤ (List.filter q r).length + 1
        omega
      | false => exact ih
theorem filter_lt {α : Type} (p q : α → Bool) (h : ∀ x, p x = true → q x = true) {y : α} (hp : p y = false) (hq : q y = true) : ∀ l : List α, y ∈ l → (l.filter p).length < (l.filter q).length
  | [], hy => by cases hy
  | x :: r, hy => by
    rw [List.filter_cons, List.filter_cons]
    rcases List.mem_cons.mp hy with e | e
    · rw [← e, hp, hq]
      have := filter_le p q h r
      show (List.filter p r).length < (List.filter q r).length + 1
      omega
    · have ih := filter_lt p q h hp hq r e
      cases hpx : p x with
      | true =>
        rw [h x hpx]
        show (List.filter p r).length + 1 < (List.filter q r).length + 1
        omega
      | false =>
        cases hqx : q x with
        | true =>
          show (List.filter p r).length < (List.filter q r).length + 1
          omega
        | false => exact ih
theorem freeN_lt {e : GE} {h : List Str} {l : Str} (hl : l ∈ e.locks) (hn : l ∉ h) : freeN e (h ++ [l]) < freeN e h := by
  unfold freeN
  refine filter_lt _ _ (fun x hx => ?_) ?_ ?_ e.locks hl (y := l)
  · have := of_decide_eq_true hx
    exact decide_eq_true fun m => this (List.mem_append_left _ m)
  · exact decide_eq_false fun z => z (List.mem_append_right _ List.mem_cons_self)
  · exact decide_eq_true hn
theorem freeN_le {e : GE} {h : List Str} : freeN e h ≤ e.locks.length := List.length_filter_le _ _
section
variable {P : Program} {w : World} {K : PySem.W.Frag} {mg : Str → Option Value} {base : Heap}
def spBody (K : PySem.W.Frag) (n : Nat) : Sp := fun vs H Q _ => ∃ (c z d : Int) (wa hl : Addr) (e : GE) (held : List Str), vs = [.int c, .int z, .int d, .ref wa, .ref hl] ∧ WOk K H wa e ∧ e.Ok ∧ SqL K H hl (held.map V.str) ∧ held.length + freeN e held ≤ 6 ∧ 0 ≤ z ∧ z ≤ 4 ∧ 0 ≤ d ∧ d ≤ 2 ∧ d.toNat * 7 + freeN e held < n ∧
  ∀ H' v ss, Same H H' → Dp K (Nw H H') v (.list (datas ss)) → GB e held d.toNat ss → ss.length + 2 * z.toNat ≤ z.toNat * (3 * 2 ^ freeN e held) → Q v H'
def spNested (K : PySem.W.Frag) (n : Nat) : Sp := fun vs H Q _ => ∃ (dl wa hl : Addr) (ds : List Int) (d : Int) (e : GE) (held : List Str), vs = [.ref dl, .int d, .ref wa, .ref hl] ∧ SqL K H dl (ds.map V.int) ∧ DOk ds [18, 60, 10 ^ 9, 10 ^ 9, 10 ^ 9] ∧ WOk K H wa e ∧ e.Ok ∧ SqL K H hl (held.map V.str) ∧ held.length + freeN e held ≤ 6 ∧ 1 ≤ d ∧ d ≤ 2 ∧ d.toNat * 7 + freeN e held < n ∧
  ∀ H' v s, Same H H' → Dp K (Nw H H') v s.data → GS e held d.toNat s → Q v H'
abbrev s_law_nested : Stmt := topS 18
theorem sc_law_nested : FnScope ["draws", "depth", "w", "held", "condition", "first", "bodies", "k"] ["draws", "depth", "w", "held"] (defScope s_law_nested) := ⟨rfl, rfl, rfl, by decide +kernel, rfl, by decide +kernel, by decide +kernel⟩
-- _law_nested slots: draws=0(cell) depth=1(cell) w=2(cell) held=3(cell) condition=4 first=5 bodies=6 k=7(None) globals: _law_condition _law_body range int
theorem len_1000 {e : GE} {held : List Str} (ok : e.Ok) {n : Nat} (h : n + 2 * 2 ≤ 2 * (3 * 2 ^ freeN e held)) : n ≤ 1000 := by
  have h1 : 2 ^ freeN e held ≤ 2 ^ 6 := Nat.pow_le_pow_right (by decide) (Nat.le_trans freeN_le ok.few)
  omega
theorem fd_law_nested {f : Addr} {fd : FuncData} (F : Fun K "_law_nested" "_law_nested" s_law_nested f fd) (m : mg "_law_nested" = some (.ref f)) (B : Bt mg) {n : Nat} (D_law_condition : Fd P w K mg base "_law_condition" ["cell", "names", "depth"] 6 (spLC K 3))
    (D_law_body : Fd P w K mg base "_law_body" ["cell", "count", "depth", "w", "held"] (3 * n + 9) (spBody K n)) : Fd P w K mg base "_law_nested" ["draws", "depth", "w", "held"] (3 * n + 10) (spNested K (n + 1)) := by
  refine ⟨f, fd, F.ok sc_law_nested (fun vs H Q E h => ?_) (fun cdv A outer s H vs Q E hr h => ?_), m, F.kp, F.binds (ps := ["draws", "depth", "w", "held"]) fun _ _ _ _ _ _ us hl => match us, hl with | [_, _, _, _], _ => rfl⟩
  · obtain ⟨dl, wa, hl, ds, d, e, held, rfl, _⟩ := h
    rfl
  obtain ⟨dl, wa, hl, ds, d, e, held, rfl, sd, dk, hw, ok, hh, hh6, d1, d2, hn, q⟩ := h
  obtain ⟨a0, a1, a2, a3, a4, ht, h0, _⟩ := id hw
  obtain ⟨x0, r0, rfl, x00, x01, dk⟩ := dk.cons
  obtain ⟨x1, r1, rfl, x10, x11, dk⟩ := dk.cons
  obtain ⟨x2, r2, rfl, x20, x21, dk⟩ := dk.cons
  obtain ⟨x3, r3, rfl, x30, x31, dk⟩ := dk.cons
  obtain ⟨x4, r4, rfl, x40, x41, dk⟩ := dk.cons
  have hdep : d.toNat = (d - 1).toNat + 1 := by omega
  refine ⟨_, (pss_cons (ps_set (i := 4) sc_law_nested.nd rfl (Or.inl rfl) (pe_fn D_law_condition (hr.mono (by omega)) rfl (pa_cons (pe_ix (ixL K) (pv 0) pe_int (fun _ _ => rfl)) (pa_cons (pe_ix (ixT K) (pv 2) pe_int (fun _ _ => rfl)) (pa_cons pe_int pa_nil)))))
 (pss_cons (ps_set (i := 5) sc_law_nested.nd rfl (Or.inl rfl) (pe_fn D_law_body hr rfl (pa_cons (pe_ix (ixL K) (pv 0) pe_int (fun _ _ => rfl)) (pa_cons pe_int (pa_cons (pe_op op_sub (pv 1) pe_int) (pa_cons (pv 2) (pa_cons (pv 3) pa_nil)))))))
 (pss_cons (ps_if (pt_cmpR op_eq (pe_ix (ixL K) (pv 0) pe_int (fun _ _ => rfl)) pe_int (nomark _))
 (pss_one (ps_ret (pe_tup (pa_cons pe_str (pa_cons (pv 4) (pa_cons (pv 5) (pa_cons (pe_fn D_law_body hr rfl (pa_cons (pe_ix (ixL K) (pv 0) pe_int (fun _ _ => rfl)) (pa_cons pe_int (pa_cons (pe_op op_sub (pv 1) pe_int) (pa_cons (pv 2) (pa_cons (pv 3) pa_nil)))))) pa_nil)))))))
 pss_nil)
 (pss_cons (ps_if (pt_cmpR op_eq (pe_ix (ixL K) (pv 0) pe_int (fun _ _ => rfl)) pe_int (nomark _))
 (pss_one (ps_ret (pe_tup (pa_cons pe_str (pa_cons (pv 4) (pa_cons (pv 5) pa_nil))))))
 pss_nil)
 (pss_cons (ps_setLc (i := 6) (own := [("k", 7)]) (g := gName 7) (by rfl) sc_law_nested.nd rfl rfl (sw_true rfl rfl rfl (by decide +kernel)) (pi_range1 rfl B.range (pa_cons (pe_ix (ixL K) (pe_lst (pa_cons pe_int (pa_cons pe_int (pa_cons pe_int (pa_cons pe_int (pa_cons pe_int (pa_cons pe_int pa_nil))))))) (pe_op op_mod (pe_callTy call_int1 (by rfl) B.int (by decide +kernel) (pa_cons (pe_ix (ixL K) (pv 0) pe_int (fun _ _ => rfl)) pa_nil)) pe_int) (fun _ _ => rfl)) pa_nil)) (blkOk_by (own := [("k", 7)]) (N := ["draws", "depth", "w", "held", "condition", "first", "bodies", "k"]) (sc := (defScope s_law_nested)) (by decide +kernel)) (fun _ _ _ _ _ => (pg_name (i := 7) sc_law_nested.nd rfl (Or.inl rfl))) (fun _ _ _ _ _ => pts_nil) (fun _ _ _ _ _ => (pe_fn D_law_body hr rfl (pa_cons (pe_op op_add (pe_ix (ixL K) (pv 0) pe_int (fun _ _ => rfl)) (pv 7)) (pa_cons pe_int (pa_cons (pe_op op_sub (pv 1) pe_int) (pa_cons (pv 2) (pa_cons (pv 3) pa_nil))))))))
 (pss_one (ps_ret (pe_tup (pa_cons pe_str (pa_cons (pv 6) pa_nil)))))))))), ?_⟩
  refine ⟨_, rfl, _, _, _, _, rfl, rfl, sd, atI_nat (j := 2) rfl, _, rfl, _, _, _, _, rfl, rfl, ht, atI_nat (j := 0) rfl, _, 2, a0, e.vars, rfl, by decide, by decide, h0, fun H1 cv ct s1 rc oc => ?_⟩
  have oc2 : COk e.vars 2 ct := oc
  have dc := RCond.dp (K := K) rc
  refine ⟨_, rfl, _, _, _, _, rfl, rfl, s1.seq sd, atI_nat (j := 3) rfl, _, rfl, _, _, rfl, rfl, _, rfl, _, rfl, _, 2, d - 1, wa, hl, e, held, rfl, hw.mono s1, ok, s1.seq hh, hh6, by decide, by decide, by omega, by omega, by omega, fun H2 v1 b1 s2 db1 g1 l1 => ?_⟩
  have l1' := len_1000 ok l1
  have sm2 := s1.trans s2
  dsimp only [gName]
  refine ifR (b := _) (fun Q q => ⟨_, rfl, _, _, _, _, rfl, rfl, sm2.seq sd, atI_nat (j := 0) rfl, rfl, _, rfl, q⟩) (fun _ => ?_) (fun _ => ?_)
  · refine ⟨_, rfl, _, rfl, _, rfl, _, _, _, _, rfl, rfl, sm2.seq sd, atI_nat (j := 4) rfl, _, rfl, _, _, rfl, rfl, _, rfl, _, rfl, _, 2, d - 1, wa, hl, e, held, rfl, hw.mono sm2, ok, sm2.seq hh, hh6, by decide, by decide, by omega, by omega, by omega, fun H3 v2 b2 s3 db2 g2 l2 => ⟨szc 4, fun p np => ?_⟩⟩
    have sn := same_new np (o := HO.tup [V.str (Str.ofString "if"), cv, v1, v2])
    have hp := (sm2.trans s3).free np
    refine q _ _ (.iff ct b1 b2) ((sm2.trans s3).trans sn) (.tup (st ((nw_at hp).trans upd_same)) (.cons (.str _) (.cons (dp_mono (nw_mono (Same.refl _) ((s2.trans s3).trans sn)) dc) (.cons (dp_mono (nw_mono s1 (s3.trans sn)) db1) (.cons (dp_mono (nw_mono sm2 sn) db2) .nil))))) ?_
    rw [hdep]
    exact .iff oc2 g1 g2 l1' (len_1000 ok l2)
  refine ifR (b := _) (fun Q q => ⟨_, rfl, _, _, _, _, rfl, rfl, sm2.seq sd, atI_nat (j := 0) rfl, rfl, _, rfl, q⟩) (fun _ => ?_) (fun _ => ?_)
  · refine ⟨_, rfl, _, rfl, szc 3, fun p np => ?_⟩
    have sn := same_new np (o := HO.tup [V.str (Str.ofString "loop"), cv, v1])
    refine q _ _ (.loop ct b1) (sm2.trans sn) (.tup (st ((nw_at (sm2.free np)).trans upd_same)) (.cons (.str _) (.cons (dp_mono (nw_mono (Same.refl _) (s2.trans sn)) dc) (.cons (dp_mono (nw_mono s1 sn) db1) .nil)))) ?_
    rw [hdep]
    exact .loop oc2 g1 l1'
  obtain ⟨nb, gb, mb, _⟩ := atI_map (f := V.int) (xs := [1, 1, 2, 2, 3, 6]) (i := x1 % 6) (by omega) (by show x1 % 6 < 6; omega)
  have nb1 : 1 ≤ nb ∧ nb ≤ 6 := by
    have : ∀ z ∈ ([1, 1, 2, 2, 3, 6] : List Int), 1 ≤ z ∧ z ≤ 6 := by decide
    exact this nb mb
  refine ⟨szc 6, fun p1 n1 => ?_⟩
  have sp := same_new n1 (o := HO.lst [V.int 1, V.int 1, V.int 2, V.int 2, V.int 3, V.int 6])
  refine ⟨_, rfl, _, _, _, _, rfl, rfl, (sm2.trans sp).seq sd, atI_nat (j := 1) rfl, .inl ⟨_, rfl, _, _, rfl, rfl, (show (0 : Int) < 6 by decide), _, _, _, _, rfl, rfl, sq upd_same, gb, _, rfl, by omega, by omega, fun D nD => ?_⟩⟩
  have smD := (sm2.trans sp)
  generalize hHX : upd H2 p1 (.lst [V.int 1, V.int 1, V.int 2, V.int 2, V.int 3, V.int 6]) = HX at smD nD sp
  refine lc_range (lo := 0) (n := nb.toNat) (fun i H' => Same HX H' ∧ ∃ (bs : List (List ST)) (xs : List V), bs.length = i ∧ H' D = some (.lst xs) ∧ DpAll K (Nw (upd HX D (.lst [])) H') xs (datass bs) ∧ (∀ b ∈ bs, GB e held (d - 1).toNat b) ∧ ∀ b ∈ bs, b.length ≤ 1000) ⟨same_new nD, [], [], rfl, upd_same, .nil, (fun b hb => by cases hb), fun b hb => by cases hb⟩ ?_ ?_
  · rintro i H' hi ⟨sm, bs, xs, bl, eD, dD, gB, lB⟩
    have smA := smD.trans sm
    have xl := dpa_len dD
    rw [datass_len] at xl
    refine ⟨rfl, _, rfl, _, _, _, _, rfl, rfl, smA.seq sd, atI_nat (j := 3) rfl, _, rfl, _, _, rfl, rfl, _, rfl, _, _, rfl, rfl, _, rfl, _, rfl, _, 2, d - 1, wa, hl, e, held, rfl, hw.mono smA, ok, smA.seq hh, hh6, by decide, by decide, by omega, by omega, by omega, fun H3 v2 b2 s3 db2 g2 l2 => ⟨xs, s3 _ _ eD, szl (by omega), Same.mut (sm.trans s3) nD, bs ++ [b2], xs ++ [v2], ?_, upd_same, ?_, ?_, ?_⟩⟩
    · rw [List.length_append, bl]; rfl
    · rw [datass_map, List.map_append, ← datass_map]
      have hD : (upd HX D (.lst [])) D = some (.lst []) := upd_same
      exact dpa_app (dpAll_mono ((nw_mono2 (fun _ h => h) s3).trans (nw_upd hD)) dD) (.cons (dp_mono ((nw_mono2 (dm_upd sm eD) (Same.refl _)).trans (nw_upd hD)) db2) .nil)
    · intro b hb
      rcases List.mem_append.mp hb with h | h
      · exact gB b h
      · rw [List.mem_singleton.mp h]; exact g2
    · intro b hb
      rcases List.mem_append.mp hb with h | h
      · exact lB b h
      · rw [List.mem_singleton.mp h]; exact len_1000 ok l2
  · rintro H' ⟨sm, bs, xs, bl, eD, dD, gB, lB⟩
    refine ⟨_, rfl, szc 2, fun p np => ?_⟩
    have sn := same_new np (o := HO.tup [V.str (Str.ofString "choose"), V.ref D])
    have sf := (smD.trans sm).trans sn
    refine q _ _ (.choose bs) sf (.tup (st ((nw_at ((smD.trans sm).free np)).trans upd_same)) (.cons (.str _) (.cons (.lst (sq ((nw_at (smD.free nD)).trans (sn _ _ eD))) (dpAll_mono (nw_mono2 ((Same.dm smD).trans dm_up) sn) dD)) .nil))) ?_
    rw [hdep]
    exact .choose (fun z => by rw [z] at bl; have : nb.toNat = 0 := bl.symm; omega) (by omega) gB lB
end
theorem fin1 {K : PySem.W.Frag} {H H1 : Hp} (sm : Same H H1) {s : ST} {p l : Addr} {ys : List V} (np : H1 p = none) (nl : (upd H1 p (.tup (.str s.word :: ys))) l = none) (dy : DpAll K (Nw H H1) ys s.args) :
    Same H (upd (upd H1 p (.tup (.str s.word :: ys))) l (.lst [.ref p])) ∧ Dp K (Nw H (upd (upd H1 p (.tup (.str s.word :: ys))) l (.lst [.ref p]))) (.ref l) (.list (datas [s])) := by
  have s1 := same_new np (o := HO.tup (.str s.word :: ys))
  have s2 := same_new nl (o := HO.lst [.ref p])
  refine ⟨(sm.trans s1).trans s2, .lst (sq ((nw_at ((sm.trans s1).free nl)).trans upd_same)) (.cons ?_ .nil)⟩
  rw [st_data]
  exact .tup (st ((nw_at (sm.free np)).trans (s2 _ _ upd_same))) (.cons (.str _) (dpAll_mono (nw_mono (Same.refl _) (s1.trans s2)) dy))
theorem pick {ss : List Str} (h : 0 < ss.length) (x : Int) : ∃ s, s ∈ ss ∧ atI (ss.map V.str) (x % ((ss.map V.str).length : Nat)) = some (.str s) ∧ (0 : Int) < ((ss.map V.str).length : Nat) := by
  have hl : (0 : Int) < ((ss.map V.str).length : Nat) := by rw [List.length_map]; omega
  have h1 := Int.emod_lt_of_pos x hl
  obtain ⟨s, g, m, _⟩ := atI_map (f := V.str) (xs := ss) (i := x % ((ss.map V.str).length : Nat)) (Int.emod_nonneg _ (by omega)) (by rw [List.length_map] at h1 ⊢; exact h1)
  exact ⟨s, m, g, hl⟩
theorem inV_str {l : Str} {held : List Str} (h : (!inV (V.str l) (held.map V.str)) = true) : l ∉ held := fun hm => by
  have : inV (V.str l) (held.map V.str) = true := by
    unfold inV
    rw [List.any_eq_true]
    exact ⟨V.str l, List.mem_map_of_mem hm, by show (l == l) = true; exact beq_self_eq_true l⟩
  rw [this] at h
  cases h
theorem len_pos {ss : List Str} {b : Bool} (h : (b && decide ((0 : Int) < ((ss.map V.str).length : Nat))) = true) : 0 < ss.length := by
  have h2 := of_decide_eq_true (and_true_r h)
  rw [List.length_map] at h2
  omega
theorem one_fits (n : Nat) : 1 + 2 ≤ 3 * 2 ^ n := by
  have := Nat.two_pow_pos n
  omega
section
variable {P : Program} {w : World} {K : PySem.W.Frag} {mg : Str → Option Value} {base : Heap}
def spStmt (K : PySem.W.Frag) (n : Nat) : Sp := fun vs H Q _ => ∃ (c d : Int) (wa hl : Addr) (e : GE) (held : List Str), vs = [.int c, .int d, .ref wa, .ref hl] ∧ WOk K H wa e ∧ e.Ok ∧ SqL K H hl (held.map V.str) ∧ held.length + freeN e held ≤ 6 ∧ 0 ≤ d ∧ d ≤ 2 ∧ d.toNat * 7 + freeN e held < n ∧
  ∀ H' v ss, Same H H' → Dp K (Nw H H') v (.list (datas ss)) → GB e held d.toNat ss → ss.length + 2 ≤ 3 * 2 ^ freeN e held → Q v H'
abbrev s_law_statement : Stmt := topS 19
theorem sc_law_statement : FnScope ["cell", "depth", "w", "held", "draws", "sort", "lock", "free"] ["cell", "depth", "w", "held"] (defScope s_law_statement) := ⟨rfl, rfl, rfl, by decide +kernel, rfl, by decide +kernel, by decide +kernel⟩
-- _law_statement slots: cell=0 depth=1 w=2 held=3(cell) draws=4 sort=5 lock=6 free=7 globals: _law_draws len int _law_value _law_body _law_condition _law_nested
theorem fd_law_statement {f : Addr} {fd : FuncData} (F : Fun K "_law_statement" "_law_statement" s_law_statement f fd) (m : mg "_law_statement" = some (.ref f)) (B : Bt mg) {n : Nat} (D_law_draws : Fd P w K mg base "_law_draws" ["cell", "limits"] 1 (spDraws K)) (D_law_value : Fd P w K mg base "_law_value" ["cell", "names", "depth"] 4 (spLV K 3)) (D_law_condition : Fd P w K mg base "_law_condition" ["cell", "names", "depth"] 6 (spLC K 3))
    (D_law_body : Fd P w K mg base "_law_body" ["cell", "count", "depth", "w", "held"] (3 * n + 9) (spBody K n)) (D_law_nested : Fd P w K mg base "_law_nested" ["draws", "depth", "w", "held"] (3 * n + 10) (spNested K (n + 1))) : Fd P w K mg base "_law_statement" ["cell", "depth", "w", "held"] (3 * n + 11) (spStmt K (n + 1)) := by
  refine ⟨f, fd, F.ok sc_law_statement (fun vs H Q E h => ?_) (fun cdv A outer s H vs Q E hr h => ?_), m, F.kp, F.binds (ps := ["cell", "depth", "w", "held"]) fun _ _ _ _ _ _ us hl => match us, hl with | [_, _, _, _], _ => rfl⟩
  · obtain ⟨c, d, wa, hl, e, held, rfl, _⟩ := h
    rfl
  obtain ⟨c, d, wa, hl, e, held, rfl, hw, ok, hh, hh6, z0, z2, hn, q⟩ := h
  refine ⟨_, (pss_cons (ps_set (i := 4) sc_law_statement.nd rfl (Or.inl rfl) (pe_fn D_law_draws (hr.mono (by omega)) rfl (pa_cons (pv 0) (pa_cons (pe_lst (pa_cons pe_int (pa_cons pe_int (pa_cons (pe_op op_pow pe_int pe_int) (pa_cons (pe_op op_pow pe_int pe_int) (pa_cons (pe_op op_pow pe_int pe_int) pa_nil)))))) pa_nil))))
 (pss_cons (ps_set (i := 5) sc_law_statement.nd rfl (Or.inl rfl) (pe_ix (ixL K) (pv 4) pe_int (fun _ _ => rfl)))
 (pss_cons (ps_setLc (i := 7) (own := [("lock", 6)]) (g := gName 6) (by rfl) sc_law_statement.nd rfl rfl (sw_true rfl rfl rfl (by decide +kernel)) (piL K (pe_ix (ixT K) (pv 2) pe_int (fun _ _ => rfl))) (blkOk_by (own := [("lock", 6)]) (N := ["cell", "depth", "w", "held", "draws", "sort", "lock", "free"]) (sc := (defScope s_law_statement)) (by decide +kernel)) (fun _ _ _ _ _ => (pg_name (i := 6) sc_law_statement.nd rfl (Or.inl rfl))) (fun _ _ _ _ _ => (pts_one (pt_cmpR (opNotIn K) (pv 6) (pv 3) (by rfl)))) (fun _ _ _ _ _ => (pv 6)))
 (pss_cons (ps_if (PW.pt (pw_and (pt_cmpR op_lt (pv 5) pe_int (nomark _)) (pw_and1 (pt_cmpR op_gt (pe_callB (cLen K) (by rfl) B.len PySem.boot_len (pa_cons (pe_ix (ixT K) (pv 2) pe_int (fun _ _ => rfl)) pa_nil)) pe_int (nomark _)))))
 (pss_one (ps_ret (pe_lst (pa_cons (pe_tup (pa_cons pe_str (pa_cons (pe_ix (ixL K) (pe_ix (ixT K) (pv 2) pe_int (fun _ _ => rfl)) (pe_op op_mod (pe_callTy call_int1 (by rfl) B.int (by decide +kernel) (pa_cons (pe_ix (ixL K) (pv 4) pe_int (fun _ _ => rfl)) pa_nil)) (pe_callB (cLen K) (by rfl) B.len PySem.boot_len (pa_cons (pe_ix (ixT K) (pv 2) pe_int (fun _ _ => rfl)) pa_nil))) (fun _ _ => rfl)) (pa_cons (pe_fn D_law_value (hr.mono (by omega)) rfl (pa_cons (pe_ix (ixL K) (pv 4) pe_int (fun _ _ => rfl)) (pa_cons (pe_ix (ixT K) (pv 2) pe_int (fun _ _ => rfl)) (pa_cons pe_int pa_nil)))) pa_nil)))) pa_nil))))
 pss_nil)
 (pss_cons (ps_if (PW.pt (pw_and (pt_cmpR op_lt (pv 5) pe_int (nomark _)) (pw_and1 (pt_cmpR op_gt (pe_callB (cLen K) (by rfl) B.len PySem.boot_len (pa_cons (pv 7) pa_nil)) pe_int (nomark _)))))
 (pss_cons (ps_set (i := 6) sc_law_statement.nd rfl (Or.inl rfl) (pe_ix (ixL K) (pv 7) (pe_op op_mod (pe_callTy call_int1 (by rfl) B.int (by decide +kernel) (pa_cons (pe_ix (ixL K) (pv 4) pe_int (fun _ _ => rfl)) pa_nil)) (pe_callB (cLen K) (by rfl) B.len PySem.boot_len (pa_cons (pv 7) pa_nil))) (fun _ _ => rfl)))
 (pss_one (ps_ret (pe_op (opCat K) (pe_op (opCat K) (pe_lst (pa_cons (pe_tup (pa_cons pe_str (pa_cons (pv 6) pa_nil))) pa_nil)) (pe_fn D_law_body (hr.mono (by omega)) rfl (pa_cons (pe_ix (ixL K) (pv 4) pe_int (fun _ _ => rfl)) (pa_cons pe_int (pa_cons (pv 1) (pa_cons (pv 2) (pa_cons (pe_op (opCat K) (pv 3) (pe_lst (pa_cons (pv 6) pa_nil))) pa_nil))))))) (pe_lst (pa_cons (pe_tup (pa_cons pe_str (pa_cons (pv 6) pa_nil))) pa_nil))))))
 pss_nil)
 (pss_cons (ps_if (PW.pt (pw_and (pt_cmpR op_eq (pv 5) pe_int (nomark _)) (pw_and (pt_cmpR op_gt (pe_callB (cLen K) (by rfl) B.len PySem.boot_len (pa_cons (pe_ix (ixT K) (pv 2) pe_int (fun _ _ => rfl)) pa_nil)) pe_int (nomark _)) (pw_and1 (pt_cmpR op_eq (pe_callB (cLen K) (by rfl) B.len PySem.boot_len (pa_cons (pv 3) pa_nil)) pe_int (nomark _))))))
 (pss_one (ps_ret (pe_lst (pa_cons (pe_tup (pa_cons pe_str (pa_cons (pe_ix (ixL K) (pe_ix (ixT K) (pv 2) pe_int (fun _ _ => rfl)) (pe_op op_mod (pe_callTy call_int1 (by rfl) B.int (by decide +kernel) (pa_cons (pe_ix (ixL K) (pv 4) pe_int (fun _ _ => rfl)) pa_nil)) (pe_callB (cLen K) (by rfl) B.len PySem.boot_len (pa_cons (pe_ix (ixT K) (pv 2) pe_int (fun _ _ => rfl)) pa_nil))) (fun _ _ => rfl)) pa_nil))) pa_nil))))
 pss_nil)
 (pss_cons (ps_if (PW.pt (pw_and (pt_cmpR op_eq (pv 5) pe_int (nomark _)) (pw_and1 (pt_cmpR op_gt (pe_callB (cLen K) (by rfl) B.len PySem.boot_len (pa_cons (pe_ix (ixT K) (pv 2) pe_int (fun _ _ => rfl)) pa_nil)) pe_int (nomark _)))))
 (pss_one (ps_ret (pe_lst (pa_cons (pe_tup (pa_cons pe_str (pa_cons (pe_ix (ixL K) (pe_ix (ixT K) (pv 2) pe_int (fun _ _ => rfl)) (pe_op op_mod (pe_callTy call_int1 (by rfl) B.int (by decide +kernel) (pa_cons (pe_ix (ixL K) (pv 4) pe_int (fun _ _ => rfl)) pa_nil)) (pe_callB (cLen K) (by rfl) B.len PySem.boot_len (pa_cons (pe_ix (ixT K) (pv 2) pe_int (fun _ _ => rfl)) pa_nil))) (fun _ _ => rfl)) pa_nil))) pa_nil))))
 pss_nil)
 (pss_cons (ps_if (pt_cmpR op_eq (pv 5) pe_int (nomark _))
 (pss_one (ps_ret (pe_lst (pa_cons (pe_tup (pa_cons pe_str (pa_cons (pe_ix (ixL K) (pe_ix (ixT K) (pv 2) pe_int (fun _ _ => rfl)) (pe_op op_mod (pe_callTy call_int1 (by rfl) B.int (by decide +kernel) (pa_cons (pe_ix (ixL K) (pv 4) pe_int (fun _ _ => rfl)) pa_nil)) (pe_callB (cLen K) (by rfl) B.len PySem.boot_len (pa_cons (pe_ix (ixT K) (pv 2) pe_int (fun _ _ => rfl)) pa_nil))) (fun _ _ => rfl)) pa_nil))) pa_nil))))
 pss_nil)
 (pss_cons (ps_if (pt_cmpR op_eq (pv 5) pe_int (nomark _))
 (pss_one (ps_ret (pe_lst (pa_cons (pe_tup (pa_cons pe_str (pa_cons (pe_fn D_law_condition (hr.mono (by omega)) rfl (pa_cons (pe_ix (ixL K) (pv 4) pe_int (fun _ _ => rfl)) (pa_cons (pe_ix (ixT K) (pv 2) pe_int (fun _ _ => rfl)) (pa_cons pe_int pa_nil)))) pa_nil))) pa_nil))))
 pss_nil)
 (pss_cons (ps_if (pt_cmpR op_eq (pv 5) pe_int (nomark _))
 (pss_one (ps_ret (pe_lst (pa_cons (pe_tup (pa_cons pe_str (pa_cons (pe_fn D_law_condition (hr.mono (by omega)) rfl (pa_cons (pe_ix (ixL K) (pv 4) pe_int (fun _ _ => rfl)) (pa_cons (pe_ix (ixT K) (pv 2) pe_int (fun _ _ => rfl)) (pa_cons pe_int pa_nil)))) pa_nil))) pa_nil))))
 pss_nil)
 (pss_cons (ps_if (pt_cmpR op_eq (pv 5) pe_int (nomark _))
 (pss_one (ps_ret (pe_lst (pa_cons (pe_tup (pa_cons pe_str (pa_cons (pe_ix (ixL K) (pe_ix (ixT K) (pv 2) pe_int (fun _ _ => rfl)) (pe_op op_mod (pe_callTy call_int1 (by rfl) B.int (by decide +kernel) (pa_cons (pe_ix (ixL K) (pv 4) pe_int (fun _ _ => rfl)) pa_nil)) (pe_callB (cLen K) (by rfl) B.len PySem.boot_len (pa_cons (pe_ix (ixT K) (pv 2) pe_int (fun _ _ => rfl)) pa_nil))) (fun _ _ => rfl)) pa_nil))) pa_nil))))
 pss_nil)
 (pss_cons (ps_if (PW.pt (pw_and (pt_cmpR op_gt (pv 5) pe_int (nomark _)) (pw_and1 (pt_cmpR op_gt (pv 1) pe_int (nomark _)))))
 (pss_one (ps_ret (pe_lst (pa_cons (pe_fn D_law_nested hr rfl (pa_cons (pv 4) (pa_cons (pv 1) (pa_cons (pv 2) (pa_cons (pv 3) pa_nil))))) pa_nil))))
 pss_nil)
 (pss_one (ps_ret (pe_lst (pa_cons (pe_tup (pa_cons pe_str pa_nil)) pa_nil)))))))))))))))), ?_⟩
  refine ⟨_, rfl, _, _, rfl, rfl, ⟨by decide, by decide, by decide⟩, _, _, rfl, rfl, ⟨by decide, by decide, by decide⟩, _, _, rfl, rfl, ⟨by decide, by decide, by decide⟩, szc 5, fun p1 n1 => ⟨p1, c, [18, 60, 10 ^ 9, 10 ^ 9, 10 ^ 9], rfl, sq upd_same, by decide, by decide, fun H1 pd ds s1 nd ed dk0 => ?_⟩⟩
  have sm1 := (same_new n1).trans s1
  have sd := sq (K := K) ed
  obtain ⟨x0, r0, rfl, x00, x01, dk⟩ := dk0.cons
  obtain ⟨x1, r1, rfl, x10, x11, dk⟩ := dk.cons
  obtain ⟨x2, r2, rfl, x20, x21, dk⟩ := dk.cons
  obtain ⟨x3, r3, rfl, x30, x31, dk⟩ := dk.cons
  obtain ⟨x4, r4, rfl, x40, x41, dk⟩ := dk.cons
  clear dk nd s1 n1
  have hw1 := hw.mono sm1
  have hh1 := sm1.seq hh
  obtain ⟨b0, b1, b2, b3, b4, ht1, _, k1, _⟩ := id hw1
  refine ⟨_, rfl, _, _, _, _, rfl, rfl, sd, atI_nat (j := 0) rfl, ?_⟩
  refine ⟨_, rfl, _, _, _, _, rfl, rfl, ht1, atI_nat (j := 1) rfl, b1, rfl, ⟨_, k1⟩, fun D nD => lc_list (xs := e.locks.map V.str) (fun i H' => Same H1 H' ∧ ∃ fs : List Str, H' D = some (.lst (fs.map V.str)) ∧ fs.length ≤ i ∧ ∀ f ∈ fs, f ∈ e.locks ∧ f ∉ held) ⟨same_new nD, [], upd_same, Nat.le_refl 0, fun f hf => by cases hf⟩ (fun i H' _ p => p.1.seq k1) ?_ ?_⟩
  · rintro i x H' hx ⟨sm, fs, eD, fl, fok⟩
    obtain ⟨l, hli, rfl⟩ := get_map_inv hx
    have hi := (List.getElem?_eq_some_iff.mp hli).1
    have few := ok.few
    refine ⟨rfl, _, rfl, _, rfl, hl, _, rfl, .inl (sm.seq hh1), rfl, flat_strs held, _, rfl, ite2 (fun hb => ⟨_, rfl, _, eD, ?_, Same.mut sm nD, fs ++ [l], ?_, ?_, ?_⟩) (fun _ => ⟨sm, fs, eD, by omega, fok⟩)⟩
    · rw [List.length_map]
      exact szl (by omega)
    · rw [upd_same, List.map_append]; rfl
    · rw [List.length_append]; show fs.length + 1 ≤ i + 1; omega
    · intro f hf
      rcases List.mem_append.mp hf with h | h
      · exact fok f h
      · rw [List.mem_singleton.mp h]
        exact ⟨List.mem_of_getElem? hli, inV_str hb⟩
  rintro H2 ⟨sm12, fs, eD, fl, fok⟩
  have sm2 := sm1.trans sm12
  have sd2 := sm12.seq sd
  have hw2 := hw.mono sm2
  have hh2 := sm2.seq hh
  have sf := sq (K := K) eD
  obtain ⟨a0, a1, a2, a3, a4, ht, h0, h1, h2, h3, h4⟩ := id hw2
  clear k1 ht1 hw1 hh1
  dsimp only [gName]
  -- set
  refine ifR (b := _) (ansAnd (fun Q q => ⟨_, rfl, _, _, rfl, rfl, _, rfl, q⟩) (fun Q q => ⟨_, rfl, _, _, _, _, rfl, rfl, ht, atI_nat (j := 0) rfl, a0, _, rfl, .inl h0, _, _, rfl, rfl, _, rfl, q⟩)) (fun hb => ?_) (fun _ => ?_)
  · obtain ⟨sv, ms, gs, hp⟩ := pick (len_pos hb) x1
    refine ⟨_, rfl, _, _, _, _, rfl, rfl, ht, atI_nat (j := 0) rfl, _, rfl, _, _, _, _, rfl, rfl, sd2, atI_nat (j := 1) rfl, .inl ⟨_, rfl, _, rfl, _, _, _, _, rfl, rfl, ht, atI_nat (j := 0) rfl, a0, _, rfl, .inl h0, _, _, rfl, rfl, hp, _, _, _, _, rfl, rfl, h0, gs, ?_⟩⟩
    refine ⟨_, rfl, _, _, _, _, rfl, rfl, sd2, atI_nat (j := 2) rfl, _, rfl, _, _, _, _, rfl, rfl, ht, atI_nat (j := 0) rfl, _, 2, a0, e.vars, rfl, by decide, by decide, h0, fun H3 v t s3 rv ov => ⟨szc 3, fun p np => ⟨szc 1, fun l nl => ?_⟩⟩⟩
    have fin := fin1 (K := K) (s := .set sv t) (ys := [.str sv, v]) (sm2.trans s3) np nl (.cons (.str _) (.cons (dp_mono (nw_mono sm2 (Same.refl _)) (RVal.dp rv)) .nil))
    exact q _ _ [.set sv t] fin.1 fin.2 (.cons (.set ms ov) .nil) (one_fits _)
  -- acquire
  refine ifR (b := _) (ansAnd (fun Q q => ⟨_, rfl, _, _, rfl, rfl, _, rfl, q⟩) (fun Q q => ⟨_, rfl, D, _, rfl, .inl sf, _, _, rfl, rfl, _, rfl, q⟩)) (fun hb => ?_) (fun _ => ?_)
  · obtain ⟨sv, ms, gs, hp⟩ := pick (len_pos hb) x1
    refine ⟨_, rfl, _, rfl, _, _, _, _, rfl, rfl, sd2, atI_nat (j := 1) rfl, .inl ⟨_, rfl, _, rfl, D, _, rfl, .inl sf, _, _, rfl, rfl, hp, _, _, _, _, rfl, rfl, sf, gs, ?_⟩⟩
    refine ⟨_, rfl, szc 2, fun p np => ⟨szc 1, fun l nl => ?_⟩⟩
    have f12 := (same_new np (o := HO.tup [V.str (Str.ofString "acquire"), V.str sv])).trans (same_new nl (o := HO.lst [V.ref p]))
    have etup : (upd (upd H2 p (.tup [V.str (Str.ofString "acquire"), V.str sv])) l (.lst [V.ref p])) p = some (.tup [V.str (Str.ofString "acquire"), V.str sv]) := same_new nl _ _ upd_same
    have elst : (upd (upd H2 p (.tup [V.str (Str.ofString "acquire"), V.str sv])) l (.lst [V.ref p])) l = some (.lst [V.ref p]) := upd_same
    generalize hH3 : upd (upd H2 p (.tup [V.str (Str.ofString "acquire"), V.str sv])) l (.lst [V.ref p]) = H3 at f12 elst etup
    have sm3 := sm2.trans f12
    refine ⟨_, rfl, _, _, _, _, rfl, rfl, f12.seq sd2, atI_nat (j := 2) rfl, _, rfl, _, rfl, _, rfl, _, rfl, szc 1, fun u nu => ⟨_, _, _, _, rfl, rfl, (same_new nu).seq (f12.seq hh2), sq upd_same, ?_, fun hx nx => ?_⟩⟩
    · rw [List.length_map]
      exact sz (by show held.length + 1 ≤ 100000; omega)
    have s34 := (same_new nu (o := HO.lst [V.str sv])).trans (same_new nx (o := HO.lst (held.map V.str ++ [V.str sv])))
    have few := ok.few
    have hfree := freeN_lt (fok sv ms).1 (fok sv ms).2
    have hfl := freeN_le (e := e) (h := held)
    have eh : held.map V.str ++ [V.str sv] = (held ++ [sv]).map V.str := by rw [List.map_append]; rfl
    have hHX : (upd (upd H3 u (.lst [V.str sv])) hx (.lst (held.map V.str ++ [V.str sv]))) hx = some (.lst ((held ++ [sv]).map V.str)) := by rw [← eh]; exact upd_same
    generalize upd (upd H3 u (.lst [V.str sv])) hx (.lst (held.map V.str ++ [V.str sv])) = H4 at s34 hHX
    have sm4 := sm3.trans s34
    refine ⟨_, 2, d, wa, hx, e, held ++ [sv], rfl, hw.mono sm4, ok, sq hHX, ?_, by decide, by decide, z0, z2, by omega, fun H5 vb bs s5 db gb lb => ?_⟩
    · rw [List.length_append]
      show held.length + 1 + freeN e (held ++ [sv]) ≤ 6
      omega
    obtain ⟨ab, xb, rfl, hab, dxb⟩ := dp_lst db
    have hab5 := nw_same.seq hab
    have lb2 := len_1000 ok lb
    have lx := dpa_len dxb
    rw [datas_len] at lx
    have s35 := s34.trans s5
    refine ⟨_, _, _, _, rfl, rfl, sq (s35 _ _ elst), hab5, sz (by show 1 + xb.length ≤ 100000; omega), fun g ng => ?_⟩
    have sg := same_new ng (o := HO.lst ([V.ref p] ++ xb))
    refine ⟨_, rfl, szc 2, fun p2 np2 => ⟨szc 1, fun l2 nl2 => ?_⟩⟩
    have sp2 := same_new np2 (o := HO.tup [V.str (Str.ofString "release"), V.str sv])
    have sl2 := same_new nl2 (o := HO.lst [V.ref p2])
    refine ⟨_, _, _, _, rfl, rfl, sq (sl2 _ _ (sp2 _ _ upd_same)), sq upd_same, sz (by rw [List.length_append]; show (1 + xb.length) + 1 ≤ 100000; omega), fun r nr => ?_⟩
    have sr := same_new nr (o := HO.lst ([V.ref p] ++ xb ++ [V.ref p2]))
    have s6 := ((sg.trans sp2).trans sl2).trans sr
    have sm5 := sm4.trans s5
    have smg := sm5.trans sg
    refine q _ _ (.acq sv :: (bs ++ [.rel sv])) (sm5.trans s6) (.lst (sq ((nw_at (((smg.trans sp2).trans sl2).free nr)).trans upd_same)) ?_) (.lock (fok sv ms).1 (fok sv ms).2 gb .nil) ?_
    · show DpAll K _ (V.ref p :: (xb ++ [V.ref p2])) ((ST.acq sv).data :: datas (bs ++ [.rel sv]))
      rw [datas_app]
      refine .cons (.tup (st ((nw_at (sm2.free np)).trans (s6 _ _ (s35 _ _ etup)))) (.cons (.str _) (.cons (.str _) .nil))) (dpa_app (dpAll_mono (nw_mono sm4 s6) dxb) (.cons (.tup (st ((nw_at (smg.free np2)).trans ((sl2.trans sr) _ _ upd_same))) (.cons (.str _) (.cons (.str _) .nil))) .nil))
    · have e2 : 2 * (3 * 2 ^ freeN e (held ++ [sv])) ≤ 3 * 2 ^ freeN e held := by
        have h3 : 2 ^ (freeN e (held ++ [sv]) + 1) ≤ 2 ^ freeN e held := Nat.pow_le_pow_right (by decide) hfree
        rw [Nat.pow_succ] at h3
        omega
      have lb3 : bs.length + 2 * 2 ≤ 2 * (3 * 2 ^ freeN e (held ++ [sv])) := lb
      rw [List.length_cons, List.length_append]
      show bs.length + 1 + 1 + 2 ≤ _
      omega
  -- rest
  refine ifR (b := _) (ansAnd (fun Q q => ⟨_, rfl, rfl, _, rfl, q⟩) (ansAnd (fun Q q => ⟨_, rfl, _, _, _, _, rfl, rfl, ht, atI_nat (j := 2) rfl, a2, _, rfl, .inl h2, _, _, rfl, rfl, _, rfl, q⟩) (fun Q q => ⟨_, rfl, hl, _, rfl, .inl hh2, rfl, _, rfl, q⟩))) (fun hb => ?_) (fun _ => ?_)
  · have hb2 := and_true_r hb
    have hz : held = [] := by
      have h := V.int.inj (of_decide_eq_true (and_true_r hb2))
      rw [List.length_map] at h
      exact List.eq_nil_of_length_eq_zero (by omega)
    obtain ⟨sv, ms, gs, hp⟩ := pick (len_pos (b := true) (by rw [Bool.true_and]; exact and_true_l hb2)) x1
    refine ⟨_, rfl, _, _, _, _, rfl, rfl, ht, atI_nat (j := 2) rfl, _, rfl, _, _, _, _, rfl, rfl, sd2, atI_nat (j := 1) rfl, .inl ⟨_, rfl, _, rfl, _, _, _, _, rfl, rfl, ht, atI_nat (j := 2) rfl, a2, _, rfl, .inl h2, _, _, rfl, rfl, hp, _, _, _, _, rfl, rfl, h2, gs, szc 2, fun p np => ⟨szc 1, fun l nl => ?_⟩⟩⟩
    have fin := fin1 (K := K) (s := .rest sv) (ys := [.str sv]) sm2 np nl (.cons (.str _) .nil)
    subst hz
    exact q _ _ [.rest sv] fin.1 fin.2 (.cons (.rest ms) .nil) (one_fits _)
  -- wake
  refine ifR (b := _) (ansAnd (fun Q q => ⟨_, rfl, rfl, _, rfl, q⟩) (fun Q q => ⟨_, rfl, _, _, _, _, rfl, rfl, ht, atI_nat (j := 2) rfl, a2, _, rfl, .inl h2, _, _, rfl, rfl, _, rfl, q⟩)) (fun hb => ?_) (fun _ => ?_)
  · obtain ⟨sv, ms, gs, hp⟩ := pick (len_pos hb) x1
    refine ⟨_, rfl, _, _, _, _, rfl, rfl, ht, atI_nat (j := 2) rfl, _, rfl, _, _, _, _, rfl, rfl, sd2, atI_nat (j := 1) rfl, .inl ⟨_, rfl, _, rfl, _, _, _, _, rfl, rfl, ht, atI_nat (j := 2) rfl, a2, _, rfl, .inl h2, _, _, rfl, rfl, hp, _, _, _, _, rfl, rfl, h2, gs, szc 2, fun p np => ⟨szc 1, fun l nl => ?_⟩⟩⟩
    have fin := fin1 (K := K) (s := .wake sv) (ys := [.str sv]) sm2 np nl (.cons (.str _) .nil)
    exact q _ _ [.wake sv] fin.1 fin.2 (.cons (.wake ms) .nil) (one_fits _)
  -- start
  refine ifR (b := _) (fun Q q => ⟨_, rfl, rfl, _, rfl, q⟩) (fun hb => ?_) (fun _ => ?_)
  · obtain ⟨sv, ms, gs, hp⟩ := pick ok.title x1
    refine ⟨_, rfl, _, _, _, _, rfl, rfl, ht, atI_nat (j := 3) rfl, _, rfl, _, _, _, _, rfl, rfl, sd2, atI_nat (j := 1) rfl, .inl ⟨_, rfl, _, rfl, _, _, _, _, rfl, rfl, ht, atI_nat (j := 3) rfl, a3, _, rfl, .inl h3, _, _, rfl, rfl, hp, _, _, _, _, rfl, rfl, h3, gs, szc 2, fun p np => ⟨szc 1, fun l nl => ?_⟩⟩⟩
    have fin := fin1 (K := K) (s := .start sv) (ys := [.str sv]) sm2 np nl (.cons (.str _) .nil)
    exact q _ _ [.start sv] fin.1 fin.2 (.cons (.start ms) .nil) (one_fits _)
  -- check
  refine ifR (b := _) (fun Q q => ⟨_, rfl, rfl, _, rfl, q⟩) (fun hb => ?_) (fun _ => ?_)
  · refine ⟨_, rfl, _, _, _, _, rfl, rfl, sd2, atI_nat (j := 2) rfl, _, rfl, _, _, _, _, rfl, rfl, ht, atI_nat (j := 0) rfl, _, 2, a0, e.vars, rfl, by decide, by decide, h0, fun H3 v t s3 rv ov => ⟨szc 2, fun p np => ⟨szc 1, fun l nl => ?_⟩⟩⟩
    have fin := fin1 (K := K) (s := .chk t) (ys := [v]) (sm2.trans s3) np nl (.cons (dp_mono (nw_mono sm2 (Same.refl _)) (RCond.dp rv)) .nil)
    exact q _ _ [.chk t] fin.1 fin.2 (.cons (.chk ov) .nil) (one_fits _)
  -- await
  refine ifR (b := _) (fun Q q => ⟨_, rfl, rfl, _, rfl, q⟩) (fun hb => ?_) (fun _ => ?_)
  · refine ⟨_, rfl, _, _, _, _, rfl, rfl, sd2, atI_nat (j := 2) rfl, _, rfl, _, _, _, _, rfl, rfl, ht, atI_nat (j := 0) rfl, _, 2, a0, e.vars, rfl, by decide, by decide, h0, fun H3 v t s3 rv ov => ⟨szc 2, fun p np => ⟨szc 1, fun l nl => ?_⟩⟩⟩
    have fin := fin1 (K := K) (s := .awt t) (ys := [v]) (sm2.trans s3) np nl (.cons (dp_mono (nw_mono sm2 (Same.refl _)) (RCond.dp rv)) .nil)
    exact q _ _ [.awt t] fin.1 fin.2 (.cons (.awt ov) .nil) (one_fits _)
  -- mark
  refine ifR (b := _) (fun Q q => ⟨_, rfl, rfl, _, rfl, q⟩) (fun hb => ?_) (fun _ => ?_)
  · obtain ⟨sv, ms, gs, hp⟩ := pick ok.name x1
    refine ⟨_, rfl, _, _, _, _, rfl, rfl, ht, atI_nat (j := 4) rfl, _, rfl, _, _, _, _, rfl, rfl, sd2, atI_nat (j := 1) rfl, .inl ⟨_, rfl, _, rfl, _, _, _, _, rfl, rfl, ht, atI_nat (j := 4) rfl, a4, _, rfl, .inl h4, _, _, rfl, rfl, hp, _, _, _, _, rfl, rfl, h4, gs, szc 2, fun p np => ⟨szc 1, fun l nl => ?_⟩⟩⟩
    have fin := fin1 (K := K) (s := .mark sv) (ys := [.str sv]) sm2 np nl (.cons (.str _) .nil)
    exact q _ _ [.mark sv] fin.1 fin.2 (.cons (.mark ms) .nil) (one_fits _)
  -- nested
  refine ifR (b := _) (ansAnd (fun Q q => ⟨_, rfl, _, _, rfl, rfl, _, rfl, q⟩) (fun Q q => ⟨_, rfl, _, _, rfl, rfl, _, rfl, q⟩)) (fun hb => ?_) (fun _ => ?_)
  · have hz : 0 < d := of_decide_eq_true (and_true_r hb)
    refine ⟨_, rfl, _, rfl, _, rfl, _, rfl, pd, wa, hl, _, d, e, held, rfl, sd2, dk0, hw2, ok, hh2, hh6, by omega, z2, hn, fun H3 v t s3 dt gt => ⟨szc 1, fun l nl => ?_⟩⟩
    have sl := same_new nl (o := HO.lst [v])
    exact q _ _ [t] ((sm2.trans s3).trans sl) (.lst (sq ((nw_at ((sm2.trans s3).free nl)).trans upd_same)) (.cons (dp_mono (nw_mono sm2 sl) dt) .nil)) (.cons gt .nil) (one_fits _)
  · refine ⟨szc 1, fun p np => ⟨szc 1, fun l nl => ?_⟩⟩
    have fin := fin1 (K := K) (s := .skip) (ys := []) sm2 np nl .nil
    exact q _ _ [.skip] fin.1 fin.2 (.cons .skip .nil) (one_fits _)
end
section
variable {P : Program} {w : World} {K : PySem.W.Frag} {mg : Str → Option Value} {base : Heap}
theorem flat_rep {α : Type} (x : α) : ∀ n : Nat, (List.replicate n [x]).flatten = List.replicate n x
  | 0 => rfl
  | n + 1 => by
    rw [List.replicate_succ, List.flatten_cons, flat_rep x n, List.replicate_succ]
    rfl
abbrev s_law_body : Stmt := topS 17
theorem sc_law_body : FnScope ["cell", "count", "depth", "w", "held", "draws", "body", "k"] ["cell", "count", "depth", "w", "held"] (defScope s_law_body) := ⟨rfl, rfl, rfl, by decide +kernel, rfl, by decide +kernel, by decide +kernel⟩
-- _law_body slots: cell=0 count=1 depth=2 w=3 held=4 draws=5 body=6 k=7 globals: _law_draws range _law_statement
theorem fd_law_body {f : Addr} {fd : FuncData} (F : Fun K "_law_body" "_law_body" s_law_body f fd) (m : mg "_law_body" = some (.ref f)) (B : Bt mg) {n : Nat} (D_law_draws : Fd P w K mg base "_law_draws" ["cell", "limits"] 1 (spDraws K))
    (D_law_statement : Fd P w K mg base "_law_statement" ["cell", "depth", "w", "held"] (3 * n + 11) (spStmt K (n + 1))) : Fd P w K mg base "_law_body" ["cell", "count", "depth", "w", "held"] (3 * (n + 1) + 9) (spBody K (n + 1)) := by
  refine ⟨f, fd, F.ok sc_law_body (fun vs H Q E h => ?_) (fun cdv A outer s H vs Q E hr h => ?_), m, F.kp, F.binds (ps := ["cell", "count", "depth", "w", "held"]) fun _ _ _ _ _ _ us hl => match us, hl with | [_, _, _, _, _], _ => rfl⟩
  · obtain ⟨c, z, d, wa, hl, e, held, rfl, _⟩ := h
    rfl
  obtain ⟨c, z, d, wa, hl, e, held, rfl, hw, ok, hh, hh6, z0, z4, d0, d2, hn, q⟩ := h
  refine ⟨_, (pss_cons (ps_set (i := 5) sc_law_body.nd rfl (Or.inl rfl) (pe_fn D_law_draws (hr.mono (by omega)) rfl (pa_cons (pv 0) (pa_cons (pe_op (opCat K) (pe_lst (pa_cons (pe_op op_add (pv 1) pe_int) pa_nil)) (pe_op op_rep (pe_lst (pa_cons (pe_op op_pow pe_int pe_int) pa_nil)) (pv 1))) pa_nil))))
 (pss_cons (ps_set (i := 6) sc_law_body.nd rfl (Or.inl rfl) (pe_lst pa_nil))
 (pss_cons (ps_for PassesOwn.never rfl (pi_range1 rfl B.range (pa_cons (pe_ix (ixL K) (pv 5) pe_int (fun _ _ => rfl)) pa_nil)) (pg_name (i := 7) sc_law_body.nd rfl (Or.inl rfl))
 (pss_one (ps_set (i := 6) sc_law_body.nd rfl (Or.inl rfl) (pe_op (opCat K) (pv 6) (pe_fn D_law_statement (hr.mono (by omega)) rfl (pa_cons (pe_ix (ixL K) (pv 5) (pe_op op_add pe_int (pv 7)) (fun _ _ => rfl)) (pa_cons (pv 2) (pa_cons (pv 3) (pa_cons (pv 4) pa_nil)))))))))
 (pss_one (ps_ret (pv 6)))))), ?_⟩
  have er : [V.int (z + 1)] ++ (List.replicate z.toNat [V.int (10 ^ 9)]).flatten = ((z + 1) :: List.replicate z.toNat (10 ^ 9 : Int)).map V.int := by
    rw [flat_rep, List.map_cons, List.map_replicate]
    rfl
  have hms : ∀ x ∈ (z + 1) :: List.replicate z.toNat (10 ^ 9 : Int), 0 < x ∧ x < 1073741824 := by
    intro x hx
    rcases List.mem_cons.mp hx with h | h
    · rw [h]; omega
    · rw [List.eq_of_mem_replicate h]; decide
  refine ⟨_, rfl, _, rfl, _, _, rfl, rfl, szc 1, fun p1 n1 => ⟨_, _, rfl, rfl, ⟨by decide, by decide, by decide⟩, szc 1, fun p2 n2 => ⟨_, rfl, _, _, _, rfl, rfl, upd_same, by omega, by omega, sz (by show 1 * z.toNat ≤ 100000; omega), fun p3 n3 => ⟨_, _, _, _, rfl, rfl, sq (same_new n3 _ _ (same_new n2 _ _ upd_same)), sq upd_same, ?_, fun p4 n4 => ⟨p4, c, (z + 1) :: List.replicate z.toNat (10 ^ 9 : Int), rfl, by rw [← er]; exact sq upd_same, hms, ?_, fun H1 pd ds s1 nd ed dk => ?_⟩⟩⟩⟩⟩
  · show 1 + (List.replicate z.toNat [V.int (10 ^ 9)]).flatten.length ≤ sizeLine
    rw [flat_rep, List.length_replicate]
    exact sz (by omega)
  · rw [List.length_cons, List.length_replicate]
    omega
  have sm1 := ((((same_new n1).trans (same_new n2)).trans (same_new n3)).trans (same_new n4)).trans s1
  clear s1 nd n4 n3 n2 n1
  obtain ⟨x0, r0, rfl, x00, x01, dk1⟩ := dk.cons
  have sd := sq (K := K) ed
  refine ⟨szc 0, fun o no => ?_⟩
  have so := same_new no (o := HO.lst [])
  refine ⟨_, rfl, _, _, _, _, rfl, rfl, so.seq sd, atI_nat (j := 0) rfl, _, rfl, by omega, by omega, for_range (lo := 0) (n := x0.toNat) (fun i σ' H' => ∃ (y7 : Option V) (bd : Addr) (ss : List ST), σ' = [some (.int c), some (.int z), some (.int d), some (.ref wa), some (.ref hl), some (.ref pd), some (.ref bd), y7] ∧ Same H H' ∧ SqL K H' pd ((x0 :: r0).map V.int) ∧ Dp K (Nw H H') (.ref bd) (.list (datas ss)) ∧ GB e held d.toNat ss ∧ ss.length + 2 * i ≤ i * (3 * 2 ^ freeN e held)) ?_ ?_ ?_⟩
  · exact ⟨none, o, [], rfl, sm1.trans so, so.seq sd, .lst (sq ((nw_at (sm1.free no)).trans upd_same)) .nil, .nil, by simp⟩
  · rintro i σ' H' hi ⟨y7, bd, ss, rfl, sm, sdi, db, gb, lb⟩
    have hz : x0.toNat ≤ z.toNat := by omega
    obtain ⟨dj, gj, j0, j1⟩ := dk.at (i := 1 + i) (m := 10 ^ 9) (by
      rw [Nat.add_comm, List.getElem?_cons_succ, List.getElem?_replicate_of_lt (by omega)])
    obtain ⟨a1, x1, e1, hx1, dx1⟩ := dp_lst db
    cases e1
    refine ⟨_, rfl, _, rfl, _, rfl, _, _, rfl, rfl, _, _, _, _, rfl, rfl, sdi, at_of (j := 1 + i) (by omega) (get_map gj), _, rfl, _, rfl, _, rfl, _, d, wa, hl, e, held, rfl, hw.mono sm, ok, sm.seq hh, hh6, d0, d2, hn, fun H2 v2 s2l s2 d2' g2 l2 => ?_⟩
    obtain ⟨a2, x2, rfl, hx2, dx2⟩ := dp_lst d2'
    have l1 := dpa_len dx1
    have l2' := dpa_len dx2
    rw [datas_len] at l1 l2'
    have hp : 2 ^ freeN e held ≤ 2 ^ 6 := Nat.pow_le_pow_right (by decide) (by omega)
    have lbb : ss.length ≤ 1000 := by
      have h4 : i ≤ 4 := by omega
      have := Nat.mul_le_mul h4 (Nat.mul_le_mul_left 3 hp)
      omega
    refine ⟨_, _, _, _, rfl, rfl, s2.seq (nw_same.seq hx1), nw_same.seq hx2, sz (by omega), fun g ng => ?_⟩
    have sg := same_new ng (o := HO.lst (x1 ++ x2))
    refine ⟨_, g, ss ++ s2l, rfl, (sm.trans s2).trans sg, (s2.trans sg).seq sdi, .lst (sq ((nw_at ((sm.trans s2).free ng)).trans upd_same)) ?_, gb_app gb g2, ?_⟩
    · rw [datas_app]
      exact dpa_app (dpAll_mono (nw_mono (Same.refl _) (s2.trans sg)) dx1) (dpAll_mono (nw_mono sm sg) dx2)
    · rw [List.length_append, Nat.add_mul]
      omega
  · rintro σ' H' ⟨y7, bd, ss, rfl, sm, sdi, db, gb, lb⟩
    refine ⟨_, rfl, q H' _ ss sm db gb ?_⟩
    have hz : x0.toNat ≤ z.toNat := by omega
    obtain ⟨t, ht⟩ := Nat.exists_eq_add_of_le hz
    have hp := Nat.two_pow_pos (freeN e held)
    rw [ht, Nat.add_mul]
    have h3 : t * 2 ≤ t * (3 * 2 ^ freeN e held) := Nat.mul_le_mul_left t (by omega)
    omega
/-- bodies, to any measure -/
theorem all_body {fb fs fn : Addr} {fdb fds fdn : FuncData} (FB : Fun K "_law_body" "_law_body" s_law_body fb fdb) (mb : mg "_law_body" = some (.ref fb)) (FS : Fun K "_law_statement" "_law_statement" s_law_statement fs fds) (ms : mg "_law_statement" = some (.ref fs))
    (FN : Fun K "_law_nested" "_law_nested" s_law_nested fn fdn) (mn : mg "_law_nested" = some (.ref fn)) (B : Bt mg) (D_law_draws : Fd P w K mg base "_law_draws" ["cell", "limits"] 1 (spDraws K)) (D_law_value : Fd P w K mg base "_law_value" ["cell", "names", "depth"] 4 (spLV K 3))
    (D_law_condition : Fd P w K mg base "_law_condition" ["cell", "names", "depth"] 6 (spLC K 3)) : ∀ n : Nat, Fd P w K mg base "_law_body" ["cell", "count", "depth", "w", "held"] (3 * n + 9) (spBody K n)
  | 0 => Fd.none FB mb (FB.binds (ps := ["cell", "count", "depth", "w", "held"]) fun _ _ _ _ _ _ us hl => match us, hl with | [_, _, _, _, _], _ => rfl) fun vs H Q E h => by
    obtain ⟨c, z, d, wa, hl, e, held, _, _, _, _, _, _, _, _, _, h, _⟩ := h
    exact absurd h (Nat.not_lt_zero _)
  | n + 1 => by
    have D_law_body := all_body FB mb FS ms FN mn B D_law_draws D_law_value D_law_condition n
    have D_law_nested := fd_law_nested FN mn B D_law_condition D_law_body
    have D_law_statement := fd_law_statement FS ms B D_law_draws D_law_value D_law_condition D_law_body D_law_nested
    exact fd_law_body FB mb B D_law_draws D_law_statement
end
theorem cut_take (xs : List V) (n : Nat) : cutV xs none (some (n : Int)) = xs.take n := by
  unfold cutV
  rw [HT.sIx_none, HT.sIx_nat xs.length xs.length n]
  show List.take (min n xs.length - 0) (List.drop 0 xs) = _
  rw [List.drop_zero, Nat.sub_zero]
  rcases Nat.le_total n xs.length with h | h
  · rw [Nat.min_eq_left h]
  · rw [Nat.min_eq_right h, List.take_of_length_le (Nat.le_refl _), List.take_of_length_le h]
theorem dpa_take {K : PySem.W.Frag} {H : Hp} : ∀ {ds : List PyData} {vs : List V} (n : Nat), DpAll K H vs ds → DpAll K H (vs.take n) (ds.take n)
  | _, _, 0, _ => .nil
  | [], _, n + 1, .nil => .nil
  | _ :: _, _, n + 1, .cons a t => .cons a (dpa_take n t)
/-- a choice of two -/
theorem at_two {a b : Int} {i : Int} (h : i = 0 ∨ i = 1) : atI [V.int a, V.int b] i = some (.int (if i = 0 then a else b)) := by
  rcases h with rfl | rfl <;> rfl
section
variable {P : Program} {w : World} {K : PySem.W.Frag} {mg : Str → Option Value} {base : Heap}
def spShares (K : PySem.W.Frag) : Sp := fun vs H Q _ => ∃ (c : Int) (nl : Addr) (ss : List Str), vs = [.int c, .ref nl] ∧ SqL K H nl (ss.map V.str) ∧ 4 ≤ ss.length ∧
  ∀ H' v (xs : List VarT), Same H H' → Dp K (Nw H H') v (.list (xs.map VarT.data)) → (∀ x ∈ xs, x.Ok) → (∀ (j : Nat) x, xs[j]? = some x → ss[j]? = some x.nm) → xs.length ≤ 4 → roomI 1 xs ≤ 16 → (xs.length < 2 → roomI 1 xs ≤ 8) → Q v H'
theorem mul_le {a b c d : Int} (h0 : 0 ≤ b) (ha : a ≤ c) (hb : b ≤ d) (hc : 0 ≤ c) : a * b ≤ c * d := Int.le_trans (Int.mul_le_mul_of_nonneg_right ha h0) (Int.mul_le_mul_of_nonneg_left hb hc)
abbrev s_law_shares : Stmt := topS 26
theorem sc_law_shares : FnScope ["cell", "names", "draws", "sizes", "shares", "k"] ["cell", "names"] (defScope s_law_shares) := ⟨rfl, rfl, rfl, by decide +kernel, rfl, by decide +kernel, by decide +kernel⟩
-- _law_shares slots: cell=0 names=1(cell) draws=2(cell) sizes=3(cell) shares=4 k=5(None) globals: _law_draws int range
theorem fd_law_shares {f : Addr} {fd : FuncData} (F : Fun K "_law_shares" "_law_shares" s_law_shares f fd) (m : mg "_law_shares" = some (.ref f)) (B : Bt mg) (D_law_draws : Fd P w K mg base "_law_draws" ["cell", "limits"] 1 (spDraws K)) (D_law_variable : Fd P w K mg base "_law_variable" ["name", "first", "size", "chosen"] 1 (spVar K)) :
    Fd P w K mg base "_law_shares" ["cell", "names"] 2 (spShares K) := by
  refine ⟨f, fd, F.ok sc_law_shares (fun vs H Q E h => ?_) (fun cdv A outer s H vs Q E hr h => ?_), m, F.kp, F.binds (ps := ["cell", "names"]) fun _ _ _ _ _ _ us hl => match us, hl with | [_, _], _ => rfl⟩
  · obtain ⟨c, nl, ss, rfl, _⟩ := h
    rfl
  obtain ⟨c, nl, ss, rfl, hn, hl4, q⟩ := h
  refine ⟨_, (pss_cons (ps_set (i := 2) sc_law_shares.nd rfl (Or.inr rfl) (pe_fn D_law_draws (hr.mono (by decide)) rfl (pa_cons (pv 0) (pa_cons (pe_lst (pa_cons pe_int (pa_cons pe_int (pa_cons pe_int (pa_cons pe_int (pa_cons pe_int (pa_cons pe_int (pa_cons pe_int (pa_cons pe_int (pa_cons pe_int (pa_cons pe_int (pa_cons pe_int (pa_cons pe_int (pa_cons pe_int pa_nil)))))))))))))) pa_nil))))
 (C8.pss_cut (ps_if (pt_cmpR op_lt (pe_ix (ixL K) (pv 2) pe_int (fun _ _ => rfl)) pe_int (nomark _))
 (pss_one (ps_set (i := 3) sc_law_shares.nd rfl (Or.inr rfl) (pe_lst (pa_cons (pe_ix (ixL K) (pe_lst (pa_cons (pe_op op_add pe_int (pe_ix (ixL K) (pv 2) pe_int (fun _ _ => rfl))) (pa_cons (pe_op op_add pe_int (pe_ix (ixL K) (pv 2) pe_int (fun _ _ => rfl))) pa_nil))) (pe_op op_mul (pe_callTy call_int1 (by rfl) B.int (by decide +kernel) (pa_cons (pe_cmpR op_lt (pe_ix (ixL K) (pv 2) pe_int (fun _ _ => rfl)) pe_int (nomark _)) pa_nil)) (pe_ix (ixL K) (pv 2) pe_int (fun _ _ => rfl))) (fun _ _ => rfl)) (pa_cons (pe_op op_add pe_int (pe_ix (ixL K) (pv 2) pe_int (fun _ _ => rfl))) (pa_cons pe_int (pa_cons pe_int pa_nil)))))))
 (pss_one (ps_set (i := 3) sc_law_shares.nd rfl (Or.inr rfl) (pe_lst (pa_cons (pe_op op_add pe_int (pe_ix (ixL K) (pv 2) pe_int (fun _ _ => rfl))) (pa_cons pe_int (pa_cons (pe_op op_add pe_int (pe_ix (ixL K) (pv 2) pe_int (fun _ _ => rfl))) (pa_cons (pe_op op_add pe_int (pe_op op_fdiv (pe_ix (ixL K) (pv 2) pe_int (fun _ _ => rfl)) pe_int)) pa_nil))))))))
 (pss_cons (ps_setLc (i := 4) (own := [("k", 5)]) (g := gName 5) (by rfl) sc_law_shares.nd rfl rfl (sw_true rfl rfl rfl (by decide +kernel)) (pi_range1 rfl B.range (pa_cons pe_int pa_nil)) (blkOk_by (own := [("k", 5)]) (N := ["cell", "names", "draws", "sizes", "shares", "k"]) (sc := (defScope s_law_shares)) (by decide +kernel)) (fun _ _ _ _ _ => (pg_name (i := 5) sc_law_shares.nd rfl (Or.inl rfl))) (fun _ _ _ _ _ => pts_nil) (fun _ _ _ _ _ => (pe_fn D_law_variable (hr.mono (by decide)) rfl (pa_cons (pe_ix (ixL K) (pv 1) (pv 5) (fun _ _ => rfl)) (pa_cons (pe_ix (ixL K) (pv 2) (pe_ix (ixL K) (pe_lst (pa_cons pe_int (pa_cons pe_int (pa_cons pe_int (pa_cons pe_int pa_nil))))) (pv 5) (fun _ _ => rfl)) (fun _ _ => rfl)) (pa_cons (pe_ix (ixL K) (pv 3) (pv 5) (fun _ _ => rfl)) (pa_cons (pe_ix (ixL K) (pv 2) (pe_ix (ixL K) (pe_lst (pa_cons pe_int (pa_cons pe_int (pa_cons pe_int (pa_cons pe_int pa_nil))))) (pv 5) (fun _ _ => rfl)) (fun _ _ => rfl)) pa_nil)))))))
 (pss_one (ps_ret (pe_slice (slL K) (pv 4) po_none (po_some (pe_ix (ixL K) (pe_lst (pa_cons pe_int (pa_cons pe_int (pa_cons pe_int (pa_cons pe_int (pa_cons pe_int (pa_cons pe_int pa_nil))))))) (pe_ix (ixL K) (pv 2) pe_int (fun _ _ => rfl)) (fun _ _ => rfl))))))))), ?_⟩
  refine ⟨_, rfl, szc 13, fun p1 n1 => ⟨p1, c, [6, 200, 4, 4, 200, 3, 4, 200, 2, 2, 200, 2, 2], rfl, sq upd_same, by decide, by decide, fun H1 pd ds s1 nd ed dk => ?_⟩⟩
  have sm1 := (same_new n1).trans s1
  have dk0 := dk
  obtain ⟨x0, r0, rfl, x00, x01, dk⟩ := dk.cons
  obtain ⟨x1, r1, rfl, x10, x11, dk⟩ := dk.cons
  obtain ⟨x2, r2, rfl, x20, x21, dk⟩ := dk.cons
  obtain ⟨x3, r3, rfl, x30, x31, dk⟩ := dk.cons
  obtain ⟨x4, r4, rfl, x40, x41, dk⟩ := dk.cons
  obtain ⟨x5, r5, rfl, x50, x51, dk⟩ := dk.cons
  obtain ⟨x6, r6, rfl, x60, x61, dk⟩ := dk.cons
  obtain ⟨x7, r7, rfl, x70, x71, dk⟩ := dk.cons
  obtain ⟨x8, r8, rfl, x80, x81, dk⟩ := dk.cons
  obtain ⟨x9, r9, rfl, x90, x91, dk⟩ := dk.cons
  obtain ⟨xa, ra, rfl, xa0, xa1, dk⟩ := dk.cons
  obtain ⟨xb, rb, rfl, xb0, xb1, dk⟩ := dk.cons
  obtain ⟨xc, rc, rfl, xc0, xc1, dk⟩ := dk.cons
  obtain rfl := dk.nil
  have sd := sq (K := K) ed
  have hn1 := sm1.seq hn
  clear dk nd s1 n1
  refine ⟨fun σ' H' => ∃ (z0 z1 z2 z3 : Int) (za : Addr), σ' = [some (.int c), some (.ref nl), some (.ref pd), some (.ref za), none, none] ∧ Same H1 H' ∧ H' za = some (.lst [.int z0, .int z1, .int z2, .int z3]) ∧ (1 ≤ z0 ∧ z0 ≤ 8) ∧ (1 ≤ z1 ∧ z1 ≤ 3) ∧ (1 ≤ z2 ∧ z2 ≤ 2) ∧ (1 ≤ z3 ∧ z3 ≤ 2) ∧ (x0 = 3 → z0 ≤ 4) ∧ (4 ≤ x0 → z0 ≤ 2 ∧ z1 ≤ 2), ?_, ?_⟩
  · refine ifS (b := _) (fun Q q => ⟨_, rfl, _, _, _, _, rfl, rfl, sd, atI_nat (j := 0) rfl, _, _, rfl, rfl, _, rfl, q⟩) (fun hb => ?_) (fun hb => ?_)
    · have hx0 := of_decide_eq_true hb
      have hi : (if decide (x0 < 3) = true then 1 else 0 : Int) * x8 = 0 ∨ (if decide (x0 < 3) = true then 1 else 0 : Int) * x8 = 1 := by
        have h8 : x8 = 0 ∨ x8 = 1 := by omega
        split <;> rcases h8 with rfl | rfl <;> simp
      refine ⟨_, rfl, _, _, _, _, rfl, rfl, sd, atI_nat (j := 2) rfl, _, _, rfl, rfl, _, rfl, _, _, _, _, rfl, rfl, sd, atI_nat (j := 2) rfl, _, _, rfl, rfl, szc 2, fun q1 m1 => ?_⟩
      have sd1 := (same_new m1 (o := HO.lst [V.int (1 + x2), V.int (5 + x2)])).seq sd
      refine ⟨_, rfl, _, _, _, _, rfl, rfl, sd1, atI_nat (j := 0) rfl, _, _, rfl, rfl, .inr ⟨_, rfl, _, rfl, _, _, _, _, rfl, rfl, sd1, atI_nat (j := 8) rfl, _, _, rfl, rfl, .inr ⟨by omega, by omega⟩, _, _, _, _, rfl, rfl, sq upd_same, at_two hi, ?_⟩⟩
      refine ⟨_, rfl, _, _, _, _, rfl, rfl, sd1, atI_nat (j := 5) rfl, _, _, rfl, rfl, szc 4, fun q2 m2 => ?_⟩
      refine ⟨_, _, _, _, q2, rfl, (same_new m1).trans (same_new m2), upd_same, ?_, ⟨by omega, by omega⟩, ⟨by decide, by decide⟩, ⟨by decide, by decide⟩, fun h3 => ?_, fun h4 => by omega⟩
      · split <;> omega
      · have e0 : (if decide (x0 < 3) = true then (1 : Int) else 0) = 0 := if_neg (by rw [h3]; decide)
        rw [e0, Int.zero_mul, if_pos rfl]
        omega
    · have hx0 := of_decide_eq_false hb
      refine ⟨_, rfl, _, _, _, _, rfl, rfl, sd, atI_nat (j := 8) rfl, _, _, rfl, rfl, _, rfl, _, _, _, _, rfl, rfl, sd, atI_nat (j := 11) rfl, _, _, rfl, rfl, _, rfl, _, _, _, _, rfl, rfl, sd, atI_nat (j := 5) rfl, _, _, rfl, rfl, ⟨by decide, by decide⟩, _, _, rfl, rfl, szc 4, fun q2 m2 => ?_⟩
      exact ⟨_, _, _, _, q2, rfl, same_new m2, upd_same, ⟨by omega, by omega⟩, ⟨by decide, by decide⟩, ⟨by omega, by omega⟩, ⟨by omega, by omega⟩, fun h3 => by omega, fun _ => ⟨by omega, by decide⟩⟩
  rintro σ' H2 ⟨z0, z1, z2, z3, za, rfl, s12, ez, hz0, hz1, hz2, hz3, h3, h4⟩
  have sm2 := sm1.trans s12
  have sd2 := s12.seq sd
  have hn2 := s12.seq hn1
  have szz := sq (K := K) ez
  have dint : ∀ j : Nat, j < 13 → ∃ d : Int, ([x0, x1, x2, x3, x4, x5, x6, x7, x8, x9, xa, xb, xc] : List Int)[j]? = some d := fun j hj => ⟨_, List.getElem?_eq_getElem (by exact hj)⟩
  refine ⟨_, rfl, by decide, by decide, fun D nD => lc_range (lo := 0) (n := (4 : Int).toNat) (fun i H' => Same H2 H' ∧ ∃ (xs : List VarT) (vs' : List V), H' D = some (.lst vs') ∧ DpAll K (Nw (upd H2 D (.lst [])) H') vs' (xs.map VarT.data) ∧ xs.length = i ∧ (∀ x ∈ xs, x.Ok) ∧ (∀ (j : Nat) x, xs[j]? = some x → ss[j]? = some x.nm ∧ [z0, z1, z2, z3][j]? = some (x.hi - x.lo + 1))) ⟨same_new nD, [], [], upd_same, .nil, rfl, (fun x hx => by cases hx), fun j x hx => by simp at hx⟩ ?_ ?_⟩
  · rintro i H' hi ⟨sm, xs, vs', eD, dD, xl, xok, xnm⟩
    have hi4 : i < 4 := hi
    have vl := dpa_len dD
    rw [List.length_map] at vl
    obtain ⟨nm, gn⟩ : ∃ nm, ss[i]? = some nm := ⟨_, List.getElem?_eq_getElem (by omega)⟩
    obtain ⟨z, gz, z18⟩ : ∃ z, [z0, z1, z2, z3][i]? = some z ∧ 1 ≤ z ∧ z ≤ 100 := by
      have : i = 0 ∨ i = 1 ∨ i = 2 ∨ i = 3 := by omega
      rcases this with rfl | rfl | rfl | rfl
      · exact ⟨_, rfl, by omega, by omega⟩
      · exact ⟨_, rfl, by omega, by omega⟩
      · exact ⟨_, rfl, by omega, by omega⟩
      · exact ⟨_, rfl, by omega, by omega⟩
    obtain ⟨i1, gi1, hi1⟩ : ∃ j : Nat, ([1, 4, 7, 10].map V.int)[i]? = some (.int (j : Int)) ∧ j < 13 := by
      have : i = 0 ∨ i = 1 ∨ i = 2 ∨ i = 3 := by omega
      rcases this with rfl | rfl | rfl | rfl
      · exact ⟨1, rfl, by decide⟩
      · exact ⟨4, rfl, by decide⟩
      · exact ⟨7, rfl, by decide⟩
      · exact ⟨10, rfl, by decide⟩
    obtain ⟨i2, gi2, hi2⟩ : ∃ j : Nat, ([3, 6, 9, 12].map V.int)[i]? = some (.int (j : Int)) ∧ j < 13 := by
      have : i = 0 ∨ i = 1 ∨ i = 2 ∨ i = 3 := by omega
      rcases this with rfl | rfl | rfl | rfl
      · exact ⟨3, rfl, by decide⟩
      · exact ⟨6, rfl, by decide⟩
      · exact ⟨9, rfl, by decide⟩
      · exact ⟨12, rfl, by decide⟩
    obtain ⟨e1, ge1⟩ := dint i1 hi1
    obtain ⟨e2, ge2⟩ := dint i2 hi2
    have hz : (0 : Int) + (i : Int) = (i : Int) := by omega
    refine ⟨rfl, _, rfl, _, rfl, _, _, _, _, rfl, rfl, sm.seq hn2, at_of (j := i) hz (get_map gn), _, rfl, szc 4, fun q1 m1 => ?_⟩
    have s3 := same_new m1 (o := HO.lst ([1, 4, 7, 10].map V.int))
    refine ⟨_, rfl, _, _, _, _, rfl, rfl, sq (upd_same (o := HO.lst ([1, 4, 7, 10].map V.int))), at_of (j := i) hz gi1, _, _, _, _, rfl, rfl, s3.seq (sm.seq sd2), at_of (j := i1) rfl (get_map ge1), _, rfl, _, rfl, _, _, _, _, rfl, rfl, s3.seq (sm.seq szz), at_of (j := i) hz (get_map (f := V.int) (xs := [z0, z1, z2, z3]) gz), _, rfl, szc 4, fun q2 m2 => ?_⟩
    have s4 := same_new m2 (o := HO.lst ([3, 6, 9, 12].map V.int))
    refine ⟨_, rfl, _, _, _, _, rfl, rfl, sq (upd_same (o := HO.lst ([3, 6, 9, 12].map V.int))), at_of (j := i) hz gi2, _, _, _, _, rfl, rfl, s4.seq (s3.seq (sm.seq sd2)), at_of (j := i2) rfl (get_map ge2), nm, e1, z, e2, rfl, z18.1, z18.2, fun H5 v x s5 dx xo xn xz => ?_⟩
    have s35 := (s3.trans s4).trans s5
    have hD : (upd H2 D (.lst [])) D = some (.lst []) := upd_same
    refine ⟨vs', s35 _ _ eD, szl (by omega), Same.mut (sm.trans s35) nD, xs ++ [x], vs' ++ [v], upd_same, ?_, ?_, ?_, ?_⟩
    · rw [List.map_append]
      exact dpa_app (dpAll_mono ((nw_mono2 (fun _ h => h) s35).trans (nw_upd hD)) dD) (.cons (dp_mono ((nw_mono2 ((dm_upd sm eD).trans (Same.dm (s3.trans s4))) (Same.refl _)).trans (nw_upd hD)) dx) .nil)
    · rw [List.length_append, xl]; rfl
    · intro y hy
      rcases List.mem_append.mp hy with h | h
      · exact xok y h
      · rw [List.mem_singleton.mp h]; exact xo
    · intro j y hy
      rcases Nat.lt_or_ge j xs.length with h | h
      · rw [List.getElem?_append_left h] at hy
        exact xnm j y hy
      · rw [List.getElem?_append_right h] at hy
        have hj : j - xs.length = 0 := by
          rcases Nat.eq_zero_or_pos (j - xs.length) with h0 | h0
          · exact h0
          · rw [List.getElem?_eq_none (by show 1 ≤ _; omega)] at hy; cases hy
        rw [hj] at hy
        have e := Option.some.inj hy
        subst e
        have ej : j = i := by omega
        rw [ej, xn, xz]
        exact ⟨gn, gz⟩
  rintro H3 ⟨sm, xs, vs', eD, dD, xl, xok, xnm⟩
  have xl4 : xs.length = 4 := xl
  obtain ⟨L, gL, hL⟩ : ∃ L : Nat, atI ([0, 1, 1, 2, 3, 4].map V.int) x0 = some (.int (L : Int)) ∧ (L = 0 ∨ L = 1 ∨ (L = 2 ∧ x0 = 3) ∨ ((L = 3 ∨ L = 4) ∧ 4 ≤ x0)) := by
    have : x0 = 0 ∨ x0 = 1 ∨ x0 = 2 ∨ x0 = 3 ∨ x0 = 4 ∨ x0 = 5 := by omega
    rcases this with rfl | rfl | rfl | rfl | rfl | rfl
    · exact ⟨0, rfl, .inl rfl⟩
    · exact ⟨1, rfl, .inr (.inl rfl)⟩
    · exact ⟨1, rfl, .inr (.inl rfl)⟩
    · exact ⟨2, rfl, .inr (.inr (.inl ⟨rfl, rfl⟩))⟩
    · exact ⟨3, rfl, .inr (.inr (.inr ⟨.inl rfl, by decide⟩))⟩
    · exact ⟨4, rfl, .inr (.inr (.inr ⟨.inr rfl, by decide⟩))⟩
  refine ⟨_, rfl, szc 6, fun q1 m1 => ?_⟩
  have s4 := same_new m1 (o := HO.lst ([0, 1, 1, 2, 3, 4].map V.int))
  refine ⟨_, rfl, _, _, _, _, rfl, rfl, s4.seq (sm.seq sd2), atI_nat (j := 0) rfl, _, _, _, _, rfl, rfl, sq (upd_same (o := HO.lst ([0, 1, 1, 2, 3, 4].map V.int))), gL, (L : Int), rfl, D, vs', rfl, sq (s4 _ _ eD), fun g ng => ?_⟩
  rw [cut_take]
  have sg := same_new ng (o := HO.lst (vs'.take L))
  have smf := ((sm2.trans sm).trans s4).trans sg
  refine q _ _ (xs.take L) smf (.lst (sq ((nw_at (((sm2.trans sm).trans s4).free ng)).trans upd_same)) ?_) (fun x hx => xok x (List.mem_of_mem_take hx)) (fun j x hx => ?_) ?_ ?_ ?_
  · rw [List.map_take]
    exact dpa_take L (dpAll_mono (nw_mono2 ((Same.dm sm2).trans dm_up) (s4.trans sg)) dD)
  · rw [List.getElem?_take] at hx
    split at hx
    · exact (xnm j x hx).1
    · cases hx
  · rw [List.length_take]
    omega
  all_goals
    obtain ⟨y0, y1, y2, y3, rfl⟩ : ∃ y0 y1 y2 y3, xs = [y0, y1, y2, y3] := by
      match xs, xl4 with
      | [a, b, c, d], _ => exact ⟨a, b, c, d, rfl⟩
    have w0 : z0 = y0.hi - y0.lo + 1 := Option.some.inj (xnm 0 y0 rfl).2
    have w1 : z1 = y1.hi - y1.lo + 1 := Option.some.inj (xnm 1 y1 rfl).2
    have w2 : z2 = y2.hi - y2.lo + 1 := Option.some.inj (xnm 2 y2 rfl).2
    have w3 : z3 = y3.hi - y3.lo + 1 := Option.some.inj (xnm 3 y3 rfl).2
  · rcases hL with rfl | rfl | ⟨rfl, hx⟩ | ⟨rfl | rfl, hx⟩
    · show (1 : Int) ≤ 16; decide
    · show 1 * (y0.hi - y0.lo + 1) ≤ 16; omega
    · show 1 * (y0.hi - y0.lo + 1) * (y1.hi - y1.lo + 1) ≤ 16
      rw [← w0, ← w1]
      have := mul_le (a := 1 * z0) (b := z1) (c := 4) (d := 3) (by omega) (by have := h3 hx; omega) (by omega) (by decide)
      omega
    · show 1 * (y0.hi - y0.lo + 1) * (y1.hi - y1.lo + 1) * (y2.hi - y2.lo + 1) ≤ 16
      rw [← w0, ← w1, ← w2]
      have hh := h4 hx
      have t1 := mul_le (a := 1 * z0) (b := z1) (c := 2) (d := 2) (by omega) (by omega) (by omega) (by decide)
      have t2 := mul_le (a := 1 * z0 * z1) (b := z2) (c := 2 * 2) (d := 2) (by omega) t1 (by omega) (by decide)
      omega
    · show 1 * (y0.hi - y0.lo + 1) * (y1.hi - y1.lo + 1) * (y2.hi - y2.lo + 1) * (y3.hi - y3.lo + 1) ≤ 16
      rw [← w0, ← w1, ← w2, ← w3]
      have hh := h4 hx
      have t1 := mul_le (a := 1 * z0) (b := z1) (c := 2) (d := 2) (by omega) (by omega) (by omega) (by decide)
      have t2 := mul_le (a := 1 * z0 * z1) (b := z2) (c := 2 * 2) (d := 2) (by omega) t1 (by omega) (by decide)
      have t3 := mul_le (a := 1 * z0 * z1 * z2) (b := z3) (c := 2 * 2 * 2) (d := 2) (by omega) t2 (by omega) (by decide)
      omega
  · rcases hL with rfl | rfl | ⟨rfl, hx⟩ | ⟨rfl | rfl, hx⟩
    · intro _; show (1 : Int) ≤ 8; decide
    · intro _; show 1 * (y0.hi - y0.lo + 1) ≤ 8; omega
    · intro h; exact absurd h (by show ¬ 2 < 2; decide)
    · intro h; exact absurd h (by show ¬ 3 < 2; decide)
    · intro h; exact absurd h (by show ¬ 4 < 2; decide)
end
theorem nw_mut {H H2 H3 : Hp} {l : Addr} {o : HO} (s : Same H2 H3) (h : H2 l = none) : Same (Nw H H2) (Nw H (upd H3 l o)) := nw_mono (Same.refl _) (Same.mut s h)
/-- a kind's body: drawn, and then wrapped some times -/
inductive GK (e : GE) : Nat → List ST → Prop
  | base {b} : GB e [] 2 b → b.length ≤ 1000 → GK e 0 b
  | wif {n b} : GK e n b → GK e (n + 1) [.iff (.bl true) b []]
  | wch {n b} : GK e n b → GK e (n + 1) [.choose [[], b]]
  | wlp {n b} : GK e n b → GK e (n + 1) [.loop (.bl false) b]
  | wfi {n b} : GK e n b → GK e (n + 1) [.skip, .iff (.bl false) [] b]
theorem gk_sht {e : GE} : ∀ {n : Nat} {b : List ST}, GK e n b → shtL b ∧ depL b ≤ n + 2
  | _, _, .base g h => ⟨gb_sht g (by omega), by have := gb_dep g; omega⟩
  | _, _, .wif g => by
    have ih := gk_sht g
    refine ⟨⟨⟨ih.1, trivial⟩, by decide, trivial⟩, ?_⟩
    show max (max (depL _) 0 + 1) 0 ≤ _
    omega
  | _, _, .wch g => by
    have ih := gk_sht g
    refine ⟨⟨⟨by show 2 ≤ 6; decide, trivial, ih.1, trivial⟩, by decide, trivial⟩, ?_⟩
    show max (max 0 (max (depL _) 0) + 1) 0 ≤ _
    omega
  | _, _, .wlp g => by
    have ih := gk_sht g
    refine ⟨⟨ih.1, by decide, trivial⟩, ?_⟩
    show max (depL _ + 1) 0 ≤ _
    omega
  | _, _, .wfi g => by
    have ih := gk_sht g
    refine ⟨⟨trivial, by show 1 < 2000; decide, ⟨trivial, ih.1⟩, by decide, trivial⟩, ?_⟩
    show max 0 (max (max 0 (depL _) + 1) 0) ≤ _
    omega
def cntV : Option Int → V
  | none => .non
  | some i => .int i
theorem cnt_dp {K : PySem.W.Frag} {H : Hp} : ∀ c : Option Int, Dp K H (cntV c) (cntData c)
  | none => .non
  | some i => .int i
def GE.more (e : GE) (ls : List VarT) : GE := { e with vars := e.vars ++ ls.map (·.nm) }
structure KT.Ok (k : KT) (e : GE) (own : List Str) : Prop where
  vs : ∀ x ∈ k.locs, x.Ok
  nms : ∀ (j : Nat) x, k.locs[j]? = some x → own[j]? = some x.nm
  few : k.locs.length ≤ 3
  bod : ∃ n, n ≤ 5 ∧ GK (e.more k.locs) n k.body
section
variable {P : Program} {w : World} {K : PySem.W.Frag} {mg : Str → Option Value} {base : Heap}
def spKind (K : PySem.W.Frag) : Sp := fun vs H Q _ => ∃ (c : Int) (nm : Str) (cnt : Option Int) (ow wa : Addr) (o0 o1 o2 : Str) (e : GE), vs = [.int c, .str nm, cntV cnt, .ref ow, .ref wa] ∧ SqL K H ow ([o0, o1, o2].map V.str) ∧ WOk K H wa e ∧ e.Ok ∧ e.vars.length ≤ 4 ∧
  ∀ H' v (k : KT), Same H H' → Dp K (Nw H H') v k.data → k.nm = nm → k.cnt = cnt → k.Ok e [o0, o1, o2] → Q v H'
abbrev s_law_kind : Stmt := topS 25
theorem sc_law_kind : FnScope ["cell", "name", "count", "own", "w", "draws", "size", "local", "seen", "body", "k", "variable"] ["cell", "name", "count", "own", "w"] (defScope s_law_kind) := ⟨rfl, rfl, rfl, by decide +kernel, rfl, by decide +kernel, by decide +kernel⟩
-- _law_kind slots: cell=0 name=1 count=2 own=3 w=4 draws=5 size=6 local=7 seen=8 body=9 k=10 variable=11(None) globals: _law_draws int _law_variable _law_body range
theorem fd_law_kind {f : Addr} {fd : FuncData} (F : Fun K "_law_kind" "_law_kind" s_law_kind f fd) (m : mg "_law_kind" = some (.ref f)) (B : Bt mg) (D_law_draws : Fd P w K mg base "_law_draws" ["cell", "limits"] 1 (spDraws K)) (D_law_variable : Fd P w K mg base "_law_variable" ["name", "first", "size", "chosen"] 1 (spVar K))
    (D_law_body : Fd P w K mg base "_law_body" ["cell", "count", "depth", "w", "held"] 72 (spBody K 21)) : Fd P w K mg base "_law_kind" ["cell", "name", "count", "own", "w"] 73 (spKind K) := by
  refine ⟨f, fd, F.ok sc_law_kind (fun vs H Q E h => ?_) (fun cdv A outer s H vs Q E hr h => ?_), m, F.kp, F.binds (ps := ["cell", "name", "count", "own", "w"]) fun _ _ _ _ _ _ us hl => match us, hl with | [_, _, _, _, _], _ => rfl⟩
  · obtain ⟨c, nm, cnt, ow, wa, o0, o1, o2, e, rfl, _⟩ := h
    rfl
  obtain ⟨c, nm, cnt, ow, wa, o0, o1, o2, e, rfl, ho, hw, ok, vf4, q⟩ := h
  refine ⟨_, (pss_cons (ps_set (i := 5) sc_law_kind.nd rfl (Or.inl rfl) (pe_fn D_law_draws (hr.mono (by decide)) rfl (pa_cons (pv 0) (pa_cons (pe_lst (pa_cons pe_int (pa_cons pe_int (pa_cons pe_int (pa_cons pe_int (pa_cons pe_int (pa_cons pe_int (pa_cons pe_int (pa_cons pe_int (pa_cons (pe_op op_pow pe_int pe_int) pa_nil)))))))))) pa_nil))))
 (pss_cons (ps_set (i := 6) sc_law_kind.nd rfl (Or.inl rfl) (pe_ix (ixL K) (pe_lst (pa_cons (pe_op op_add pe_int (pe_ix (ixL K) (pv 5) pe_int (fun _ _ => rfl))) (pa_cons pe_int pa_nil))) (pe_op op_mul (pe_callTy call_int1 (by rfl) B.int (by decide +kernel) (pa_cons (pe_cmpR op_eq (pe_ix (ixL K) (pv 5) pe_int (fun _ _ => rfl)) pe_int (nomark _)) pa_nil)) (pe_ix (ixL K) (pv 5) pe_int (fun _ _ => rfl))) (fun _ _ => rfl)))
 (pss_cons (ps_set (i := 7) sc_law_kind.nd rfl (Or.inl rfl) (pe_lst (pa_cons (pe_fn D_law_variable (hr.mono (by decide)) rfl (pa_cons (pe_ix (ixL K) (pv 3) pe_int (fun _ _ => rfl)) (pa_cons (pe_ix (ixL K) (pv 5) pe_int (fun _ _ => rfl)) (pa_cons (pv 6) (pa_cons (pe_ix (ixL K) (pv 5) pe_int (fun _ _ => rfl)) pa_nil))))) (pa_cons (pe_fn D_law_variable (hr.mono (by decide)) rfl (pa_cons (pe_ix (ixL K) (pv 3) pe_int (fun _ _ => rfl)) (pa_cons (pe_ix (ixL K) (pv 5) pe_int (fun _ _ => rfl)) (pa_cons (pe_op op_add pe_int (pe_ix (ixL K) (pv 5) pe_int (fun _ _ => rfl))) (pa_cons (pe_ix (ixL K) (pv 5) pe_int (fun _ _ => rfl)) pa_nil))))) pa_nil))))
 (pss_cons (ps_expr (peBm K PySem.F.plainAttrs_list PySem.F.slot_list_append PySem.F.type_list_append mt_append (pv 7) (pa_cons (pe_fn D_law_variable (hr.mono (by decide)) rfl (pa_cons (pe_ix (ixL K) (pv 3) pe_int (fun _ _ => rfl)) (pa_cons (pe_ix (ixL K) (pv 5) pe_int (fun _ _ => rfl)) (pa_cons pe_int (pa_cons pe_int pa_nil))))) pa_nil)))
 (pss_cons (ps_set (i := 7) sc_law_kind.nd rfl (Or.inl rfl) (pe_slice (slL K) (pv 7) po_none (po_some (pe_ix (ixL K) (pe_lst (pa_cons pe_int (pa_cons pe_int (pa_cons pe_int (pa_cons pe_int (pa_cons pe_int (pa_cons pe_int (pa_cons pe_int pa_nil)))))))) (pe_ix (ixL K) (pv 5) pe_int (fun _ _ => rfl)) (fun _ _ => rfl)))))
 (pss_cons (ps_set (i := 8) sc_law_kind.nd rfl (Or.inl rfl) (pe_tup (pa_cons (pe_op (opCat K) (pe_ix (ixT K) (pv 4) pe_int (fun _ _ => rfl)) (pe_lc (own := [("variable", 11)]) (g := gName 11) (by rfl) sc_law_kind.nd (piL K (pv 7)) (blkOk_by (own := [("variable", 11)]) (N := ["cell", "name", "count", "own", "w", "draws", "size", "local", "seen", "body", "k", "variable"]) (sc := (defScope s_law_kind)) (by decide +kernel)) (fun _ _ _ _ _ => (pg_name (i := 11) sc_law_kind.nd rfl (Or.inl rfl))) (fun _ _ _ _ _ => pts_nil) (fun _ _ _ _ _ => (pe_ix (ixT K) (pv 11) pe_int (fun _ _ => rfl))))) (pa_cons (pe_ix (ixT K) (pv 4) pe_int (fun _ _ => rfl)) (pa_cons (pe_ix (ixT K) (pv 4) pe_int (fun _ _ => rfl)) (pa_cons (pe_ix (ixT K) (pv 4) pe_int (fun _ _ => rfl)) (pa_cons (pe_ix (ixT K) (pv 4) pe_int (fun _ _ => rfl)) pa_nil)))))))
 (pss_cons (ps_set (i := 9) sc_law_kind.nd rfl (Or.inl rfl) (pe_fn D_law_body hr rfl (pa_cons (pe_ix (ixL K) (pv 5) pe_int (fun _ _ => rfl)) (pa_cons pe_int (pa_cons pe_int (pa_cons (pv 8) (pa_cons (pe_lst pa_nil) pa_nil)))))))
 (C8.pss_cut (ps_if (pt_cmpR op_eq (pe_op op_mod (pe_callTy call_int1 (by rfl) B.int (by decide +kernel) (pa_cons (pe_ix (ixL K) (pv 5) pe_int (fun _ _ => rfl)) pa_nil)) pe_int) pe_int (nomark _))
 (pss_one (ps_for PassesOwn.never rfl (pi_range1 rfl B.range (pa_cons (pe_op op_add (pe_op op_add pe_int (pe_ix (ixL K) (pv 5) pe_int (fun _ _ => rfl))) (pe_ix (ixL K) (pv 5) pe_int (fun _ _ => rfl))) pa_nil)) (pg_name (i := 10) sc_law_kind.nd rfl (Or.inl rfl))
 (pss_one (ps_set (i := 9) sc_law_kind.nd rfl (Or.inl rfl) (pe_ix (ixL K) (pe_lst (pa_cons (pe_lst (pa_cons (pe_tup (pa_cons pe_str (pa_cons pe_bl (pa_cons (pv 9) (pa_cons (pe_lst pa_nil) pa_nil))))) pa_nil)) (pa_cons (pe_lst (pa_cons (pe_tup (pa_cons pe_str (pa_cons (pe_lst (pa_cons (pe_lst pa_nil) (pa_cons (pv 9) pa_nil))) pa_nil))) pa_nil)) (pa_cons (pe_lst (pa_cons (pe_tup (pa_cons pe_str (pa_cons pe_bl (pa_cons (pv 9) pa_nil)))) pa_nil)) (pa_cons (pe_lst (pa_cons (pe_tup (pa_cons pe_str pa_nil)) (pa_cons (pe_tup (pa_cons pe_str (pa_cons pe_bl (pa_cons (pe_lst pa_nil) (pa_cons (pv 9) pa_nil))))) pa_nil))) pa_nil))))) (pe_op op_and (pe_callTy call_int1 (by rfl) B.int (by decide +kernel) (pa_cons (pe_op op_add (pe_ix (ixL K) (pv 5) pe_int (fun _ _ => rfl)) (pv 10)) pa_nil)) pe_int) (fun _ _ => rfl))))))
 pss_nil)
 (pss_one (ps_ret (pe_tup (pa_cons (pv 1) (pa_cons (pv 2) (pa_cons (pv 7) (pa_cons (pv 9) pa_nil))))))))))))))), ?_⟩
  refine ⟨_, rfl, _, _, rfl, rfl, ⟨by decide, by decide, by decide⟩, szc 9, fun p1 n1 => ⟨p1, c, [7, 200, 3, 3, 200, 2, 2, 200, 10 ^ 9], rfl, sq upd_same, by decide, by decide, fun H1 pd ds s1 nd ed dk => ?_⟩⟩
  have sm1 := (same_new n1).trans s1
  obtain ⟨x0, r0, rfl, x00, x01, dk⟩ := dk.cons
  obtain ⟨x1, r1, rfl, x10, x11, dk⟩ := dk.cons
  obtain ⟨x2, r2, rfl, x20, x21, dk⟩ := dk.cons
  obtain ⟨x3, r3, rfl, x30, x31, dk⟩ := dk.cons
  obtain ⟨x4, r4, rfl, x40, x41, dk⟩ := dk.cons
  obtain ⟨x5, r5, rfl, x50, x51, dk⟩ := dk.cons
  obtain ⟨x6, r6, rfl, x60, x61, dk⟩ := dk.cons
  obtain ⟨x7, r7, rfl, x70, x71, dk⟩ := dk.cons
  obtain ⟨x8, r8, rfl, x80, x81, dk⟩ := dk.cons
  have sd := sq (K := K) ed
  clear dk nd s1 n1
  -- size
  have hi : (if decide (V.int x0 = V.int 3) = true then 1 else 0 : Int) * x6 = 0 ∨ (if decide (V.int x0 = V.int 3) = true then 1 else 0 : Int) * x6 = 1 := by
    have h8 : x6 = 0 ∨ x6 = 1 := by omega
    split <;> rcases h8 with rfl | rfl <;> simp
  refine ⟨_, rfl, _, _, _, _, rfl, rfl, sd, atI_nat (j := 2) rfl, _, _, rfl, rfl, szc 2, fun q1 m1 => ?_⟩
  have t1 := same_new m1 (o := HO.lst [V.int (1 + x2), V.int 12])
  have sd1 := t1.seq sd
  refine ⟨_, rfl, _, _, _, _, rfl, rfl, sd1, atI_nat (j := 0) rfl, rfl, .inr ⟨_, rfl, _, rfl, _, _, _, _, rfl, rfl, sd1, atI_nat (j := 6) rfl, _, _, rfl, rfl, .inr ⟨by omega, by omega⟩, _, _, _, _, rfl, rfl, sq upd_same, at_two hi, ?_⟩⟩
  have hsz : 1 ≤ (if (if decide (V.int x0 = V.int 3) = true then 1 else 0 : Int) * x6 = 0 then 1 + x2 else 12) ∧ (if (if decide (V.int x0 = V.int 3) = true then 1 else 0 : Int) * x6 = 0 then 1 + x2 else 12) ≤ 100 := by split <;> omega
  generalize (if (if decide (V.int x0 = V.int 3) = true then 1 else 0 : Int) * x6 = 0 then 1 + x2 else 12) = sz0 at hsz ⊢
  have sm2 := sm1.trans t1
  generalize upd H1 q1 (.lst [V.int (1 + x2), V.int 12]) = H2 at sm2 sd1 ⊢
  clear t1 m1 sd
  -- local
  refine ⟨_, rfl, _, _, _, _, rfl, rfl, sm2.seq ho, atI_nat (j := 0) rfl, _, rfl, _, _, _, _, rfl, rfl, sd1, atI_nat (j := 1) rfl, _, rfl, _, rfl, _, _, _, _, rfl, rfl, sd1, atI_nat (j := 3) rfl, o0, x1, sz0, x3, rfl, hsz.1, hsz.2, fun H3 v1 y1 s3 dv1 k1 nm1 zz1 => ?_⟩
  refine ⟨_, rfl, _, _, _, _, rfl, rfl, s3.seq (sm2.seq ho), atI_nat (j := 1) rfl, _, rfl, _, _, _, _, rfl, rfl, s3.seq sd1, atI_nat (j := 4) rfl, _, rfl, _, _, _, _, rfl, rfl, s3.seq sd1, atI_nat (j := 5) rfl, _, _, rfl, rfl, _, rfl, _, _, _, _, rfl, rfl, s3.seq sd1, atI_nat (j := 6) rfl, o1, x4, 1 + x5, x6, rfl, by omega, by omega, fun H4 v2 y2 s4 dv2 k2 nm2 zz2 => ⟨szc 2, fun l1 nl1 => ?_⟩⟩
  have sm3 := sm2.trans s3
  have sm4 := sm3.trans s4
  have sl := same_new nl1 (o := HO.lst [v1, v2])
  have sd5 := sl.seq (s4.seq (s3.seq sd1))
  have el : (upd H4 l1 (.lst [v1, v2])) l1 = some (.lst [v1, v2]) := upd_same
  generalize upd H4 l1 (.lst [v1, v2]) = H5 at sl sd5 el ⊢
  have sm5 := sm4.trans sl
  refine ⟨_, rfl, .inl ⟨rfl, _, sq el⟩, _, rfl, _, _, _, _, rfl, rfl, sm5.seq ho, atI_nat (j := 2) rfl, _, rfl, _, _, _, _, rfl, rfl, sd5, atI_nat (j := 7) rfl, o2, x7, 1, 0, rfl, by decide, by decide, fun H6 v3 y3 s6 dv3 k3 nm3 zz3 => ⟨l1, _, _, rfl, rfl, s6 _ _ el, szl (by show 2 < 100000; decide), ?_⟩⟩
  have sm6 := sm5.trans s6
  have hl1 : H l1 = none := sm4.free nl1
  have sm7 : Same H (upd H6 l1 (.lst ([v1, v2] ++ [v3]))) := Same.mut sm6 hl1
  have dd1 : Dp K (Nw H (upd H6 l1 (.lst ([v1, v2] ++ [v3])))) v1 y1.data := dp_mono ((nw_mono sm2 (Same.refl _)).trans (nw_mut (s4.trans (sl.trans s6)) (s4.free nl1))) dv1
  have dd2 : Dp K (Nw H (upd H6 l1 (.lst ([v1, v2] ++ [v3])))) v2 y2.data := dp_mono ((nw_mono sm3 (Same.refl _)).trans (nw_mut (sl.trans s6) nl1)) dv2
  have dd3 : Dp K (Nw H (upd H6 l1 (.lst ([v1, v2] ++ [v3])))) v3 y3.data := dp_mono ((nw_upd el).trans (nw_mono sm5 (Same.refl _))) dv3
  have el7 : (upd H6 l1 (.lst ([v1, v2] ++ [v3]))) l1 = some (.lst [v1, v2, v3]) := upd_same
  have sd7 : SqL K (upd H6 l1 (.lst ([v1, v2] ++ [v3]))) pd ((x0 :: x1 :: x2 :: x3 :: x4 :: x5 :: x6 :: x7 :: x8 :: r8).map V.int) := by
    have hne : H2 l1 = none := (s3.trans s4).free nl1
    exact (Same.mut (s3.trans (s4.trans (sl.trans s6))) hne).seq sd1
  generalize upd H6 l1 (.lst ([v1, v2] ++ [v3])) = H7 at sm7 dd1 dd2 dd3 el7 sd7 ⊢
  clear dv1 dv2 dv3 el sd5 sl s6 sm6 sm5
  -- local[:n]
  obtain ⟨L, gL, hL⟩ : ∃ L : Nat, atI ([0, 0, 1, 1, 2, 2, 3].map V.int) x0 = some (.int (L : Int)) ∧ L ≤ 3 := by
    have : x0 = 0 ∨ x0 = 1 ∨ x0 = 2 ∨ x0 = 3 ∨ x0 = 4 ∨ x0 = 5 ∨ x0 = 6 := by omega
    rcases this with rfl | rfl | rfl | rfl | rfl | rfl | rfl
    · exact ⟨0, rfl, by decide⟩
    · exact ⟨0, rfl, by decide⟩
    · exact ⟨1, rfl, by decide⟩
    · exact ⟨1, rfl, by decide⟩
    · exact ⟨2, rfl, by decide⟩
    · exact ⟨2, rfl, by decide⟩
    · exact ⟨3, rfl, by decide⟩
  refine ⟨_, rfl, szc 7, fun q1 m1 => ?_⟩
  have t1 := same_new m1 (o := HO.lst [V.int 0, V.int 0, V.int 1, V.int 1, V.int 2, V.int 2, V.int 3])
  refine ⟨_, rfl, _, _, _, _, rfl, rfl, t1.seq sd7, atI_nat (j := 0) rfl, _, _, _, _, rfl, rfl, sq (upd_same (o := HO.lst ([0, 0, 1, 1, 2, 2, 3].map V.int))), gL, (L : Int), rfl, l1, _, rfl, sq (t1 _ _ el7), fun g ng => ?_⟩
  rw [cut_take]
  have t2 := same_new ng (o := HO.lst ([v1, v2, v3].take L))
  have eg : (upd (upd H7 q1 (.lst [V.int 0, V.int 0, V.int 1, V.int 1, V.int 2, V.int 2, V.int 3])) g (.lst ([v1, v2, v3].take L))) g = some (.lst ([v1, v2, v3].take L)) := upd_same
  have sm8 := (sm7.trans t1).trans t2
  have gfree := (sm7.trans t1).free ng
  have sd8 := (t1.trans t2).seq sd7
  have dls : DpAll K (Nw H (upd (upd H7 q1 (.lst [V.int 0, V.int 0, V.int 1, V.int 1, V.int 2, V.int 2, V.int 3])) g (.lst ([v1, v2, v3].take L)))) ([v1, v2, v3].take L) (([y1, y2, y3].take L).map VarT.data) := by
    rw [List.map_take]
    exact dpa_take L (dpAll_mono (nw_mono (Same.refl _) (t1.trans t2)) (.cons dd1 (.cons dd2 (.cons dd3 .nil))))
  have oks : ∀ x ∈ [y1, y2, y3].take L, x.Ok := fun x hx => by
    have hm := List.mem_of_mem_take hx
    simp only [List.mem_cons, List.not_mem_nil, or_false] at hm
    rcases hm with rfl | rfl | rfl
    · exact k1
    · exact k2
    · exact k3
  have nms : ∀ (j : Nat) x, ([y1, y2, y3].take L)[j]? = some x → [o0, o1, o2][j]? = some x.nm := fun j x hx => by
    rw [List.getElem?_take] at hx
    split at hx
    · match j, hx with
      | 0, hx => rw [← nm1]; exact congrArg some (congrArg VarT.nm (Option.some.inj hx))
      | 1, hx => rw [← nm2]; exact congrArg some (congrArg VarT.nm (Option.some.inj hx))
      | 2, hx => rw [← nm3]; exact congrArg some (congrArg VarT.nm (Option.some.inj hx))
      | j + 3, hx => simp at hx
    · cases hx
  have fews : ([y1, y2, y3].take L).length ≤ 3 := by rw [List.length_take]; show min L 3 ≤ 3; omega
  generalize [y1, y2, y3].take L = ls at dls oks nms fews
  generalize [v1, v2, v3].take L = lv at eg dls sm8 sd8 ⊢
  generalize upd (upd H7 q1 (.lst [V.int 0, V.int 0, V.int 1, V.int 1, V.int 2, V.int 2, V.int 3])) g (.lst lv) = H8 at eg dls sm8 sd8 ⊢
  have lvl := dpa_len dls
  rw [List.length_map] at lvl
  clear t1 t2 m1 ng sd7 dd1 dd2 dd3 el7
  -- seen
  have hw8 := hw.mono sm8
  obtain ⟨a0, a1, a2, a3, a4, ht, h0, h1, h2, h3, h4⟩ := id hw8
  refine ⟨_, rfl, _, _, _, _, rfl, rfl, ht, atI_nat (j := 0) rfl, ?_⟩
  refine ⟨_, rfl, g, rfl, ⟨_, sq eg⟩, fun D nD => lc_list (xs := lv) (fun i H' => Same H8 H' ∧ H' D = some (.lst (((ls.take i).map (·.nm)).map V.str))) ⟨same_new nD, upd_same⟩ (fun i H' _ p => p.1.seq (sq eg)) ?_ ?_⟩
  · rintro i x H' hx ⟨sm, eD⟩
    obtain ⟨d, hdi, dx⟩ := dpa_at dls hx
    rw [List.getElem?_map] at hdi
    obtain ⟨vt, hvi, rfl⟩ : ∃ s, ls[i]? = some s ∧ s.data = d := by
      cases h : ls[i]? with
      | none => rw [h] at hdi; cases hdi
      | some s => rw [h] at hdi; exact ⟨s, rfl, Option.some.inj hdi⟩
    obtain ⟨t, rfl, htt⟩ := var_dp (dp_mono (nw_same.trans sm) dx)
    refine ⟨rfl, _, rfl, _, _, _, _, rfl, rfl, htt, atI_nat (j := 0) rfl, _, eD, ?_, Same.mut sm nD, ?_⟩
    · rw [List.length_map, List.length_map, List.length_take]
      exact szl (by omega)
    · rw [upd_same, take_snoc hvi, List.map_append, List.map_append]
      rfl
  rintro H9 ⟨s9, eD⟩
  rw [List.take_of_length_le (by omega)] at eD
  have vf := ok.vfew
  have ht9 := Same.seqT s9 ht
  have h09 := s9.seq h0
  refine ⟨_, _, _, _, rfl, rfl, h09, sq eD, ?_, fun nv nnv => ?_⟩
  · rw [List.length_map, List.length_map, List.length_map]
    exact sz (by omega)
  have env : e.vars.map V.str ++ (ls.map (·.nm)).map V.str = (e.more ls).vars.map V.str := by
    show _ = (e.vars ++ ls.map (·.nm)).map V.str
    rw [List.map_append]
  rw [env]
  have sA := same_new nnv (o := HO.lst ((e.more ls).vars.map V.str))
  have eA : (upd H9 nv (.lst ((e.more ls).vars.map V.str))) nv = some (.lst ((e.more ls).vars.map V.str)) := upd_same
  generalize upd H9 nv (.lst ((e.more ls).vars.map V.str)) = HA at sA eA ⊢
  have htA := Same.seqT sA ht9
  refine ⟨_, rfl, _, _, _, _, rfl, rfl, htA, atI_nat (j := 1) rfl, _, rfl, _, _, _, _, rfl, rfl, htA, atI_nat (j := 2) rfl, _, rfl, _, _, _, _, rfl, rfl, htA, atI_nat (j := 3) rfl, _, rfl, _, _, _, _, rfl, rfl, htA, atI_nat (j := 4) rfl, szc 5, fun wt nwt => ?_⟩
  have sB := same_new nwt (o := HO.tup [V.ref nv, V.ref a1, V.ref a2, V.ref a3, V.ref a4])
  have eB : (upd HA wt (.tup [V.ref nv, V.ref a1, V.ref a2, V.ref a3, V.ref a4])) wt = some (.tup [V.ref nv, V.ref a1, V.ref a2, V.ref a3, V.ref a4]) := upd_same
  generalize upd HA wt (.tup [V.ref nv, V.ref a1, V.ref a2, V.ref a3, V.ref a4]) = HB at sB eB ⊢
  have s8B := (s9.trans sA).trans sB
  have wB : WOk K HB wt (e.more ls) := ⟨nv, a1, a2, a3, a4, st eB, sq (sB _ _ eA), s8B.seq h1, s8B.seq h2, s8B.seq h3, s8B.seq h4⟩
  have okB : (e.more ls).Ok := ⟨ok.few, by show (e.vars ++ ls.map (·.nm)).length ≤ 10; rw [List.length_append, List.length_map]; omega, ok.title, ok.name⟩
  -- body
  refine ⟨_, rfl, _, _, _, _, rfl, rfl, s8B.seq sd8, atI_nat (j := 8) rfl, _, rfl, szc 0, fun he nhe => ?_⟩
  have sC := same_new nhe (o := HO.lst [])
  have hfl := freeN_le (e := e.more ls) (h := [])
  have few := okB.few
  refine ⟨_, 4, 2, wt, he, e.more ls, [], rfl, wB.mono sC, okB, sq upd_same, by show 0 + freeN (e.more ls) [] ≤ 6; omega, by decide, by decide, by decide, by decide, by show 2 * 7 + freeN (e.more ls) [] < 21; omega, fun HD vb bs sD db gb lb => ?_⟩
  obtain ⟨ab, xb, rfl, hab, dxb⟩ := dp_lst db
  have lb2 : bs.length ≤ 1000 := by
    have h1 : 2 ^ freeN (e.more ls) [] ≤ 2 ^ 6 := Nat.pow_le_pow_right (by decide) (by omega)
    have lb3 : bs.length + 2 * 4 ≤ 4 * (3 * 2 ^ freeN (e.more ls) []) := lb
    omega
  have s8D := (s8B.trans sC).trans sD
  have smD := sm8.trans s8D
  have dbD : Dp K (Nw H HD) (.ref ab) (.list (datas bs)) := dp_mono (nw_mono (sm8.trans (s8B.trans sC)) (Same.refl _)) (.lst hab dxb)
  have dlD : Dp K (Nw H HD) (.ref g) (.list (ls.map VarT.data)) := .lst (sq ((nw_at ?free).trans (s8D _ _ eg))) (dpAll_mono (nw_mono (Same.refl _) s8D) dls)
  case free => exact gfree
  clear db hab dxb xb
  refine ⟨fun σ' H' => ∃ (y10 : Option V) (bd : Addr) (n : Nat) (ss : List ST), σ' = [some (.int c), some (.str nm), some (cntV cnt), some (.ref ow), some (.ref wa), some (.ref pd), some (.int sz0), some (.ref g), some (.ref wt), some (.ref bd), y10, none] ∧ Same HD H' ∧ Dp K (Nw H H') (.ref bd) (.list (datas ss)) ∧ n ≤ 5 ∧ GK (e.more ls) n ss, ?_, ?_⟩
  · refine ifS (b := _) (fun Q q => ⟨_, rfl, _, _, _, _, rfl, rfl, s8D.seq sd8, atI_nat (j := 1) rfl, .inl ⟨_, rfl, _, _, rfl, rfl, (show (0 : Int) < 4 by decide), rfl, _, rfl, q⟩⟩) (fun _ => ?_) (fun _ => ⟨_, ab, 0, bs, rfl, Same.refl _, dbD, Nat.zero_le _, .base gb lb2⟩)
    refine ⟨_, rfl, _, _, _, _, rfl, rfl, s8D.seq sd8, atI_nat (j := 2) rfl, _, _, rfl, rfl, _, rfl, _, _, _, _, rfl, rfl, s8D.seq sd8, atI_nat (j := 3) rfl, _, _, rfl, rfl, _, rfl, by omega, by omega, for_range (lo := 0) (n := (1 + x2 + x3).toNat) (fun i σ' H' => ∃ (y10 : Option V) (bd : Addr) (ss : List ST), σ' = [some (.int c), some (.str nm), some (cntV cnt), some (.ref ow), some (.ref wa), some (.ref pd), some (.int sz0), some (.ref g), some (.ref wt), some (.ref bd), y10, none] ∧ Same HD H' ∧ Dp K (Nw H H') (.ref bd) (.list (datas ss)) ∧ GK (e.more ls) i ss) ?_ ?_ ?_⟩
    · exact ⟨_, ab, bs, rfl, Same.refl _, dbD, .base gb lb2⟩
    · rintro i σ' H' hi ⟨y10, bd, ss, rfl, sm, dss, gss⟩
      have smA := smD.trans sm
      have sdA := sm.seq (s8D.seq sd8)
      have h4 : Builtin.bitAnd (x4 + (0 + (i : Int))) 3 = (x4 + (0 + (i : Int))) % 4 := Bits.bitAnd_mask 2 (by omega)
      -- [('if', True, body, [])]
      refine ⟨_, rfl, szc 0, fun a1 m1 => ?_⟩
      have t1 := same_new m1 (o := HO.lst [])
      have e1 : (upd H' a1 (.lst [])) a1 = some (.lst []) := upd_same
      generalize upd H' a1 (.lst []) = K1 at t1 e1 ⊢
      refine ⟨szc 4, fun b1 m2 => ?_⟩
      have t2 := same_new m2 (o := HO.tup [V.str (Str.ofString "if"), V.bl true, V.ref bd, V.ref a1])
      have e2 : (upd K1 b1 (.tup [V.str (Str.ofString "if"), V.bl true, V.ref bd, V.ref a1])) b1 = some (.tup [V.str (Str.ofString "if"), V.bl true, V.ref bd, V.ref a1]) := upd_same
      generalize upd K1 b1 (.tup [V.str (Str.ofString "if"), V.bl true, V.ref bd, V.ref a1]) = K2 at t2 e2 ⊢
      refine ⟨szc 1, fun l1 m3 => ?_⟩
      have t3 := same_new m3 (o := HO.lst [V.ref b1])
      have e3 : (upd K2 l1 (.lst [V.ref b1])) l1 = some (.lst [V.ref b1]) := upd_same
      generalize upd K2 l1 (.lst [V.ref b1]) = K3 at t3 e3 ⊢
      -- [('choose', [[], body])]
      refine ⟨szc 0, fun a2 m4 => ?_⟩
      have t4 := same_new m4 (o := HO.lst [])
      have e4 : (upd K3 a2 (.lst [])) a2 = some (.lst []) := upd_same
      generalize upd K3 a2 (.lst []) = K4 at t4 e4 ⊢
      refine ⟨_, rfl, szc 2, fun a3 m5 => ?_⟩
      have t5 := same_new m5 (o := HO.lst [V.ref a2, V.ref bd])
      have e5 : (upd K4 a3 (.lst [V.ref a2, V.ref bd])) a3 = some (.lst [V.ref a2, V.ref bd]) := upd_same
      generalize upd K4 a3 (.lst [V.ref a2, V.ref bd]) = K5 at t5 e5 ⊢
      refine ⟨szc 2, fun b2 m6 => ?_⟩
      have t6 := same_new m6 (o := HO.tup [V.str (Str.ofString "choose"), V.ref a3])
      have e6 : (upd K5 b2 (.tup [V.str (Str.ofString "choose"), V.ref a3])) b2 = some (.tup [V.str (Str.ofString "choose"), V.ref a3]) := upd_same
      generalize upd K5 b2 (.tup [V.str (Str.ofString "choose"), V.ref a3]) = K6 at t6 e6 ⊢
      refine ⟨szc 1, fun l2 m7 => ?_⟩
      have t7 := same_new m7 (o := HO.lst [V.ref b2])
      have e7 : (upd K6 l2 (.lst [V.ref b2])) l2 = some (.lst [V.ref b2]) := upd_same
      generalize upd K6 l2 (.lst [V.ref b2]) = K7 at t7 e7 ⊢
      -- [('loop', False, body)]
      refine ⟨_, rfl, szc 3, fun b3 m8 => ?_⟩
      have t8 := same_new m8 (o := HO.tup [V.str (Str.ofString "loop"), V.bl false, V.ref bd])
      have e8 : (upd K7 b3 (.tup [V.str (Str.ofString "loop"), V.bl false, V.ref bd])) b3 = some (.tup [V.str (Str.ofString "loop"), V.bl false, V.ref bd]) := upd_same
      generalize upd K7 b3 (.tup [V.str (Str.ofString "loop"), V.bl false, V.ref bd]) = K8 at t8 e8 ⊢
      refine ⟨szc 1, fun l3 m9 => ?_⟩
      have t9 := same_new m9 (o := HO.lst [V.ref b3])
      have e9 : (upd K8 l3 (.lst [V.ref b3])) l3 = some (.lst [V.ref b3]) := upd_same
      generalize upd K8 l3 (.lst [V.ref b3]) = K9 at t9 e9 ⊢
      -- [('skip',), ('if', False, [], body)]
      refine ⟨szc 1, fun b4 m10 => ?_⟩
      have t10 := same_new m10 (o := HO.tup [V.str (Str.ofString "skip")])
      have e10 : (upd K9 b4 (.tup [V.str (Str.ofString "skip")])) b4 = some (.tup [V.str (Str.ofString "skip")]) := upd_same
      generalize upd K9 b4 (.tup [V.str (Str.ofString "skip")]) = KA at t10 e10 ⊢
      refine ⟨szc 0, fun a4' m11 => ?_⟩
      have t11 := same_new m11 (o := HO.lst [])
      have e11 : (upd KA a4' (.lst [])) a4' = some (.lst []) := upd_same
      generalize upd KA a4' (.lst []) = KB at t11 e11 ⊢
      refine ⟨_, rfl, szc 4, fun b5 m12 => ?_⟩
      have t12 := same_new m12 (o := HO.tup [V.str (Str.ofString "if"), V.bl false, V.ref a4', V.ref bd])
      have e12 : (upd KB b5 (.tup [V.str (Str.ofString "if"), V.bl false, V.ref a4', V.ref bd])) b5 = some (.tup [V.str (Str.ofString "if"), V.bl false, V.ref a4', V.ref bd]) := upd_same
      generalize upd KB b5 (.tup [V.str (Str.ofString "if"), V.bl false, V.ref a4', V.ref bd]) = KC at t12 e12 ⊢
      refine ⟨szc 2, fun l4 m13 => ?_⟩
      have t13 := same_new m13 (o := HO.lst [V.ref b4, V.ref b5])
      have e13 : (upd KC l4 (.lst [V.ref b4, V.ref b5])) l4 = some (.lst [V.ref b4, V.ref b5]) := upd_same
      generalize upd KC l4 (.lst [V.ref b4, V.ref b5]) = KD at t13 e13 ⊢
      refine ⟨szc 4, fun o1' m14 => ?_⟩
      have t14 := same_new m14 (o := HO.lst [V.ref l1, V.ref l2, V.ref l3, V.ref l4])
      have e14 : (upd KD o1' (.lst [V.ref l1, V.ref l2, V.ref l3, V.ref l4])) o1' = some (.lst [V.ref l1, V.ref l2, V.ref l3, V.ref l4]) := upd_same
      generalize upd KD o1' (.lst [V.ref l1, V.ref l2, V.ref l3, V.ref l4]) = KE at t14 e14 ⊢
      -- what holds at the end
      have u13 := t14
      have u12 := t13.trans u13
      have u11 := t12.trans u12
      have u10 := t11.trans u11
      have u9 := t10.trans u10
      have u8 := t9.trans u9
      have u7 := t8.trans u8
      have u6 := t7.trans u7
      have u5 := t6.trans u6
      have u4 := t5.trans u5
      have u3 := t4.trans u4
      have u2 := t3.trans u3
      have u1 := t2.trans u2
      have u0 := t1.trans u1
      have w1 := smA.trans t1
      have w2 := w1.trans t2
      have w3 := w2.trans t3
      have w4 := w3.trans t4
      have w5 := w4.trans t5
      have w6 := w5.trans t6
      have w7 := w6.trans t7
      have w8 := w7.trans t8
      have w9 := w8.trans t9
      have wA := w9.trans t10
      have wB' := wA.trans t11
      have wC := wB'.trans t12
      have at' : ∀ {Hx : Hp} {p : Addr} {o : HO}, Same H Hx → Hx p = none → KE p = some o → Nw H KE p = some o := fun sx hp he => (nw_at (sx.free hp)).trans he
      have dE := dp_mono (nw_mono (Same.refl _) u0) dss
      have em1 : Dp K (Nw H KE) (.ref a1) (.list (datas [])) := .lst (sq (at' smA m1 (u1 _ _ e1))) .nil
      have em2 : Dp K (Nw H KE) (.ref a2) (.list (datas [])) := .lst (sq (at' w3 m4 (u4 _ _ e4))) .nil
      have em4 : Dp K (Nw H KE) (.ref a4') (.list (datas [])) := .lst (sq (at' wA m11 (u11 _ _ e11))) .nil
      have d1 : Dp K (Nw H KE) (.ref l1) (.list (datas [.iff (.bl true) ss []])) := .lst (sq (at' w2 m3 (u3 _ _ e3))) (.cons (.tup (st (at' w1 m2 (u2 _ _ e2))) (.cons (.str _) (.cons (.bl _) (.cons dE (.cons em1 .nil))))) .nil)
      have d2 : Dp K (Nw H KE) (.ref l2) (.list (datas [.choose [[], ss]])) := .lst (sq (at' w6 m7 (u7 _ _ e7))) (.cons (.tup (st (at' w5 m6 (u6 _ _ e6))) (.cons (.str _) (.cons (.lst (sq (at' w4 m5 (u5 _ _ e5))) (.cons em2 (.cons dE .nil))) .nil))) .nil)
      have d3 : Dp K (Nw H KE) (.ref l3) (.list (datas [.loop (.bl false) ss])) := .lst (sq (at' w8 m9 (u9 _ _ e9))) (.cons (.tup (st (at' w7 m8 (u8 _ _ e8))) (.cons (.str _) (.cons (.bl _) (.cons dE .nil)))) .nil)
      have d4 : Dp K (Nw H KE) (.ref l4) (.list (datas [.skip, .iff (.bl false) [] ss])) := .lst (sq (at' wC m13 (u13 _ _ e13))) (.cons (.tup (st (at' w9 m10 (u10 _ _ e10))) (.cons (.str _) .nil)) (.cons (.tup (st (at' wB' m12 (u12 _ _ e12))) (.cons (.str _) (.cons (.bl _) (.cons em4 (.cons dE .nil))))) .nil))
      have go : ∀ (l : Addr) (ts : List ST), Dp K (Nw H KE) (.ref l) (.list (datas ts)) → GK (e.more ls) (i + 1) ts → atI [V.ref l1, V.ref l2, V.ref l3, V.ref l4] ((x4 + (0 + (i : Int))) % 4) = some (.ref l) → ∃ v, atI [V.ref l1, V.ref l2, V.ref l3, V.ref l4] (Builtin.bitAnd (x4 + (0 + (i : Int))) 3) = some v ∧ ∃ (bd' : Addr) (ts : List ST), v = .ref bd' ∧ Dp K (Nw H KE) (.ref bd') (.list (datas ts)) ∧ GK (e.more ls) (i + 1) ts := fun l ts hd hg ha => ⟨_, by rw [h4]; exact ha, l, ts, rfl, hd, hg⟩
      have pickd : ∃ v, atI [V.ref l1, V.ref l2, V.ref l3, V.ref l4] (Builtin.bitAnd (x4 + (0 + (i : Int))) 3) = some v ∧ ∃ (bd' : Addr) (ts : List ST), v = .ref bd' ∧ Dp K (Nw H KE) (.ref bd') (.list (datas ts)) ∧ GK (e.more ls) (i + 1) ts := by
        have h03 : (x4 + (0 + (i : Int))) % 4 = 0 ∨ (x4 + (0 + (i : Int))) % 4 = 1 ∨ (x4 + (0 + (i : Int))) % 4 = 2 ∨ (x4 + (0 + (i : Int))) % 4 = 3 := by omega
        rcases h03 with h | h | h | h
        · exact go l1 _ d1 (.wif gss) (by rw [h]; rfl)
        · exact go l2 _ d2 (.wch gss) (by rw [h]; rfl)
        · exact go l3 _ d3 (.wlp gss) (by rw [h]; rfl)
        · exact go l4 _ d4 (.wfi gss) (by rw [h]; rfl)
      obtain ⟨v, gv, bd', ts, rfl, dts, gts⟩ := pickd
      refine ⟨_, rfl, _, _, _, _, rfl, rfl, u0.seq sdA, atI_nat (j := 4) rfl, _, rfl, _, _, rfl, rfl, .inl ⟨_, rfl, _, _, rfl, rfl, _, _, _, _, rfl, rfl, sq e14, gv, ?_⟩⟩
      exact ⟨_, bd', ts, rfl, sm.trans u0, dts, gts⟩
    · rintro σ' H' ⟨y10, bd, ss, rfl, sm, dss, gss⟩
      exact ⟨y10, bd, _, ss, rfl, sm, dss, by omega, gss⟩
  rintro σ' H' ⟨y10, bd, n, ss, rfl, sm, dss, n5, gss⟩
  refine ⟨_, rfl, _, rfl, _, rfl, _, rfl, szc 4, fun p np => ?_⟩
  have sp := same_new np (o := HO.tup [V.str nm, cntV cnt, V.ref g, V.ref bd])
  exact q _ _ ⟨nm, cnt, ls, ss⟩ ((smD.trans sm).trans sp) (.tup (st ((nw_at ((smD.trans sm).free np)).trans upd_same)) (.cons (.str _) (.cons (cnt_dp cnt) (.cons (dp_mono (nw_mono (Same.refl _) (sm.trans sp)) dlD) (.cons (dp_mono (nw_mono (Same.refl _) sp) dss) .nil))))) rfl rfl ⟨oks, nms, fews, n, n5, gss⟩
end
theorem cut_str {ss : List Str} {a n : Nat} {i j : Int} (h : a + n ≤ ss.length) (hi : i = (a : Int)) (hj : j = ((a + n : Nat) : Int)) : cutV (ss.map V.str) (some i) (some j) = ((ss.drop a).take n).map V.str := by
  subst hi
  subst hj
  unfold cutV
  rw [HT.sIx_nat, HT.sIx_nat, List.length_map, Nat.min_eq_left (show a ≤ ss.length by omega), Nat.min_eq_left h, List.map_take, List.map_drop, Nat.add_sub_cancel_left]
theorem dpa_set {K : PySem.W.Frag} {H : Hp} {v : V} {d : PyData} (hv : Dp K H v d) : ∀ {ds : List PyData} {vs : List V} (n : Nat), DpAll K H vs ds → DpAll K H (vs.set n v) (ds.set n d)
  | [], _, _, .nil => .nil
  | _ :: _, _, 0, .cons _ t => .cons hv t
  | _ :: _, _, n + 1, .cons a t => .cons a (dpa_set hv n t)
structure PT where
  shares : List VarT
  locks : List Str
  bells : List Str
  kinds : List KT
def PT.data (p : PT) : PyData := .tuple [.list (p.shares.map VarT.data), .list (p.locks.map PyData.str), .list (p.bells.map PyData.str), .list (p.kinds.map KT.data)]
def PT.ge (p : PT) (ss : List Str) : GE := ⟨p.shares.map (·.nm), p.locks, p.bells, p.kinds.map (·.nm), ss⟩
/-- what a kind is that was too large -/
def KT.Small (k : KT) (ss : List Str) : Prop := k.locs = [] ∧ ∃ m, ss[26]? = some m ∧ k.body = [.skip, .mark m]
def CntOk (c j : Nat) (k : KT) : Prop := (k.cnt = none ↔ j = c) ∧ ∀ i, k.cnt = some i → 0 ≤ i ∧ i ≤ 9
structure KOk (e : GE) (ss : List Str) (c b j : Nat) (k : KT) : Prop where
  nm : e.titles[j]? = some k.nm
  cnt : CntOk c j k
  ok : k.Small ss ∨ ∃ o0 o1 o2, (ss.drop (4 + 3 * j * b)).take 3 = [o0, o1, o2] ∧ k.Ok e [o0, o1, o2]
structure PT.Ok (p : PT) (ss : List Str) : Prop where
  n30 : ss.length = 30
  n20 : NmsOk ss
  sh : ∀ x ∈ p.shares, x.Ok
  shn : ∀ (j : Nat) x, p.shares[j]? = some x → ss[j]? = some x.nm
  shl : p.shares.length ≤ 4
  r16 : roomI 1 p.shares ≤ 16
  r8 : p.shares.length < 2 → roomI 1 p.shares ≤ 8
  lk : (∃ m, m ≤ 2 ∧ p.locks = (ss.drop 16).take m) ∨ (p.shares.length < 2 ∧ p.locks = (ss.drop 16).take 3) ∨ (p.shares.length = 0 ∧ p.locks = (ss.drop 16).take 3 ++ (ss.drop 26).take 3)
  be : ∃ m, m ≤ 3 ∧ p.bells = (ss.drop 19).take m
  ti : ∃ m, m ≤ 3 ∧ p.kinds.map (·.nm) = (ss.drop 22).take (m + 1)
  kd : ∃ c b, c < p.kinds.length ∧ b ≤ 1 ∧ ∀ (j : Nat) k, p.kinds[j]? = some k → KOk (p.ge ss) ss c b j k
  rm : (p.kinds.map KT.room).sum ≤ 96
theorem small_room {k : KT} {ss : List Str} (h : k.Small ss) : k.room = 4 := by
  obtain ⟨h1, m, _, h2⟩ := h
  unfold KT.room
  rw [h1, h2]
  rfl
theorem sum_small : ∀ {ks : List KT} {ss : List Str}, (∀ k ∈ ks, k.Small ss) → (ks.map KT.room).sum = 4 * (ks.length : Int)
  | [], _, _ => rfl
  | k :: r, ss, h => by
    rw [List.map_cons, List.sum_cons, small_room (h k List.mem_cons_self), sum_small fun x hx => h x (List.mem_cons_of_mem _ hx), List.length_cons]
    omega
section
variable {P : Program} {w : World} {K : PySem.W.Frag} {mg : Str → Option Value} {base : Heap}
def spProg (K : PySem.W.Frag) : Sp := fun vs H Q _ => ∃ (c m : Int), vs = [.int c, .int m] ∧ ∀ H' v (p : PT) ss, Same H H' → Dp K (Nw H H') v p.data → p.Ok ss → Q v H'
abbrev s_law_program : Stmt := topS 27
theorem sc_law_program : FnScope ["cell", "more", "draws", "names", "shares", "locks", "bells", "titles", "w", "kinds", "k", "count", "first", "variable", "kind"] ["cell", "more"] (defScope s_law_program) := ⟨rfl, rfl, rfl, by decide +kernel, rfl, by decide +kernel, by decide +kernel⟩
-- _law_program slots: cell=0 more=1 draws=2 names=3 shares=4 locks=5 bells=6 titles=7 w=8 kinds=9 k=10 count=11 first=12 variable=13(None) kind=14(None) globals: _law_draws _law_names _law_shares len range int _law_kind sum
theorem fd_law_program {f : Addr} {fd : FuncData} (F : Fun K "_law_program" "_law_program" s_law_program f fd) (m : mg "_law_program" = some (.ref f)) (B : Bt mg) (D_law_draws : Fd P w K mg base "_law_draws" ["cell", "limits"] 1 (spDraws K)) (D_law_names : Fd P w K mg base "_law_names" ["cell", "count"] 2 (spNames K)) (D_law_shares : Fd P w K mg base "_law_shares" ["cell", "names"] 2 (spShares K))
    (D_law_kind : Fd P w K mg base "_law_kind" ["cell", "name", "count", "own", "w"] 73 (spKind K)) (D_law_room : Fd P w K mg base "_law_room" ["kind"] 14 (spRoom K 12)) : Fd P w K mg base "_law_program" ["cell", "more"] 74 (spProg K) := by
  refine ⟨f, fd, F.ok sc_law_program (fun vs H Q E h => ?_) (fun cdv A outer s H vs Q E hr h => ?_), m, F.kp, F.binds (ps := ["cell", "more"]) fun _ _ _ _ _ _ us hl => match us, hl with | [_, _], _ => rfl⟩
  · obtain ⟨c, m, rfl, _⟩ := h
    rfl
  obtain ⟨c, mo, rfl, q⟩ := h
  refine ⟨_, (pss_cons (ps_set (i := 2) sc_law_program.nd rfl (Or.inl rfl) (pe_fn D_law_draws (hr.mono (by decide)) rfl (pa_cons (pv 0) (pa_cons (pe_lst (pa_cons (pe_op op_pow pe_int pe_int) (pa_cons pe_int (pa_cons pe_int (pa_cons pe_int (pa_cons pe_int (pa_cons pe_int (pa_cons pe_int (pa_cons (pe_op op_pow pe_int pe_int) pa_nil))))))))) pa_nil))))
 (pss_cons (ps_set (i := 3) sc_law_program.nd rfl (Or.inl rfl) (pe_fn D_law_names (hr.mono (by decide)) rfl (pa_cons (pe_ix (ixL K) (pv 2) pe_int (fun _ _ => rfl)) (pa_cons pe_int pa_nil))))
 (pss_cons (ps_set (i := 4) sc_law_program.nd rfl (Or.inl rfl) (pe_fn D_law_shares (hr.mono (by decide)) rfl (pa_cons (pe_ix (ixL K) (pv 2) pe_int (fun _ _ => rfl)) (pa_cons (pv 3) pa_nil))))
 (pss_cons (ps_set (i := 5) sc_law_program.nd rfl (Or.inl rfl) (pe_slice (slL K) (pv 3) (po_some pe_int) (po_some (pe_op op_add pe_int (pe_ix (ixL K) (pe_lst (pa_cons pe_int (pa_cons pe_int (pa_cons pe_int (pa_cons pe_int (pa_cons pe_int pa_nil)))))) (pe_ix (ixL K) (pv 2) pe_int (fun _ _ => rfl)) (fun _ _ => rfl))))))
 (C8.pss_cut (ps_if (PW.pt (pw_and (pt_cmpR op_lt (pe_callB (cLen K) (by rfl) B.len PySem.boot_len (pa_cons (pv 4) pa_nil)) pe_int (nomark _)) (pw_and1 (pt_cmpR op_eq (pe_ix (ixL K) (pv 2) pe_int (fun _ _ => rfl)) pe_int (nomark _)))))
 (pss_one (ps_set (i := 5) sc_law_program.nd rfl (Or.inl rfl) (pe_slice (slL K) (pv 3) (po_some pe_int) (po_some pe_int))))
 pss_nil)
 (C8.pss_cut (ps_if (PW.pt (pw_and (pt_cmpR op_eq (pe_callB (cLen K) (by rfl) B.len PySem.boot_len (pa_cons (pv 4) pa_nil)) pe_int (nomark _)) (pw_and1 (pt_cmpR op_eq (pe_ix (ixL K) (pv 2) pe_int (fun _ _ => rfl)) pe_int (nomark _)))))
 (pss_one (ps_set (i := 5) sc_law_program.nd rfl (Or.inl rfl) (pe_op (opCat K) (pe_slice (slL K) (pv 3) (po_some pe_int) (po_some pe_int)) (pe_slice (slL K) (pv 3) (po_some pe_int) (po_some pe_int)))))
 pss_nil)
 (pss_cons (ps_set (i := 6) sc_law_program.nd rfl (Or.inl rfl) (pe_slice (slL K) (pv 3) (po_some pe_int) (po_some (pe_op op_add pe_int (pe_ix (ixL K) (pe_lst (pa_cons pe_int (pa_cons pe_int (pa_cons pe_int (pa_cons pe_int (pa_cons pe_int pa_nil)))))) (pe_ix (ixL K) (pv 2) pe_int (fun _ _ => rfl)) (fun _ _ => rfl))))))
 (pss_cons (ps_set (i := 7) sc_law_program.nd rfl (Or.inl rfl) (pe_slice (slL K) (pv 3) (po_some pe_int) (po_some (pe_op op_add pe_int (pe_ix (ixL K) (pe_lst (pa_cons pe_int (pa_cons pe_int (pa_cons pe_int (pa_cons pe_int (pa_cons pe_int (pa_cons pe_int (pa_cons pe_int (pa_cons pe_int pa_nil))))))))) (pe_ix (ixL K) (pv 2) pe_int (fun _ _ => rfl)) (fun _ _ => rfl))))))
 (pss_cons (ps_set (i := 8) sc_law_program.nd rfl (Or.inl rfl) (pe_tup (pa_cons (pe_lc (own := [("variable", 13)]) (g := gName 13) (by rfl) sc_law_program.nd (piL K (pv 4)) (blkOk_by (own := [("variable", 13)]) (N := ["cell", "more", "draws", "names", "shares", "locks", "bells", "titles", "w", "kinds", "k", "count", "first", "variable", "kind"]) (sc := (defScope s_law_program)) (by decide +kernel)) (fun _ _ _ _ _ => (pg_name (i := 13) sc_law_program.nd rfl (Or.inl rfl))) (fun _ _ _ _ _ => pts_nil) (fun _ _ _ _ _ => (pe_ix (ixT K) (pv 13) pe_int (fun _ _ => rfl)))) (pa_cons (pv 5) (pa_cons (pv 6) (pa_cons (pv 7) (pa_cons (pv 3) pa_nil)))))))
 (pss_cons (ps_set (i := 9) sc_law_program.nd rfl (Or.inl rfl) (pe_lst pa_nil))
 (pss_cons (ps_for PassesOwn.never rfl (pi_range1 rfl B.range (pa_cons (pe_callB (cLen K) (by rfl) B.len PySem.boot_len (pa_cons (pv 7) pa_nil)) pa_nil)) (pg_name (i := 10) sc_law_program.nd rfl (Or.inl rfl))
 (pss_cons (ps_set (i := 11) sc_law_program.nd rfl (Or.inl rfl) (pe_ix (ixL K) (pe_lst (pa_cons pe_int (pa_cons pe_int (pa_cons pe_int (pa_cons (pe_ix (ixL K) (pv 2) pe_int (fun _ _ => rfl)) pa_nil))))) (pe_op op_and (pe_callTy call_int1 (by rfl) B.int (by decide +kernel) (pa_cons (pe_op op_add (pe_ix (ixL K) (pv 2) pe_int (fun _ _ => rfl)) (pv 10)) pa_nil)) pe_int) (fun _ _ => rfl)))
 (C8.pss_cut (ps_if (pt_cmpR op_eq (pv 10) (pe_op op_mod (pe_callTy call_int1 (by rfl) B.int (by decide +kernel) (pa_cons (pe_ix (ixL K) (pv 2) pe_int (fun _ _ => rfl)) pa_nil)) (pe_callB (cLen K) (by rfl) B.len PySem.boot_len (pa_cons (pv 7) pa_nil))) (nomark _))
 (pss_one (ps_set (i := 11) sc_law_program.nd rfl (Or.inl rfl) pe_non))
 pss_nil)
 (pss_cons (ps_set (i := 12) sc_law_program.nd rfl (Or.inl rfl) (pe_op op_add pe_int (pe_op op_mul (pe_op op_mul pe_int (pv 10)) (pe_callTy call_int1 (by rfl) B.int (by decide +kernel) (pa_cons (pe_op op_and (pe_ix (ixL K) (pv 2) pe_int (fun _ _ => rfl)) pe_int) pa_nil)))))
 (pss_one (ps_expr (peBm K PySem.F.plainAttrs_list PySem.F.slot_list_append PySem.F.type_list_append mt_append (pv 9) (pa_cons (pe_fn D_law_kind (hr.mono (by decide)) rfl (pa_cons (pe_op op_add (pe_op op_fdiv (pe_callTy call_int1 (by rfl) B.int (by decide +kernel) (pa_cons (pv 1) pa_nil)) (pe_op op_add pe_int (pv 10))) (pe_op op_mul pe_int (pv 10))) (pa_cons (pe_ix (ixL K) (pv 7) (pv 10) (fun _ _ => rfl)) (pa_cons (pv 11) (pa_cons (pe_slice (slL K) (pv 3) (po_some (pv 12)) (po_some (pe_op op_add (pv 12) pe_int))) (pa_cons (pv 8) pa_nil)))))) pa_nil))))))))
 (pss_cons (ps_for PassesOwn.never rfl (pi_range1 rfl B.range (pa_cons (pe_callB (cLen K) (by rfl) B.len PySem.boot_len (pa_cons (pv 9) pa_nil)) pa_nil)) (pg_name (i := 10) sc_law_program.nd rfl (Or.inl rfl))
 (pss_one (ps_if (pt_cmpR op_gt (pe_callB (cSum K rfl) (by rfl) B.sum (by decide +kernel) (pa_cons (pe_lc (own := [("kind", 14)]) (g := gName 14) (by rfl) sc_law_program.nd (piL K (pv 9)) (blkOk_by (own := [("kind", 14)]) (N := ["cell", "more", "draws", "names", "shares", "locks", "bells", "titles", "w", "kinds", "k", "count", "first", "variable", "kind"]) (sc := (defScope s_law_program)) (by decide +kernel)) (fun _ _ _ _ _ => (pg_name (i := 14) sc_law_program.nd rfl (Or.inl rfl))) (fun _ _ _ _ _ => pts_nil) (fun _ _ _ _ _ => (pe_fn D_law_room (hr.mono (by decide)) rfl (pa_cons (pv 14) pa_nil)))) pa_nil)) pe_int (nomark _))
 (pss_one (ps_asg (pe_tup (pa_cons (pe_ix (ixT K) (pe_ix (ixL K) (pv 9) (pv 10) (fun _ _ => rfl)) pe_int (fun _ _ => rfl)) (pa_cons (pe_ix (ixT K) (pe_ix (ixL K) (pv 9) (pv 10) (fun _ _ => rfl)) pe_int (fun _ _ => rfl)) (pa_cons (pe_lst pa_nil) (pa_cons (pe_lst (pa_cons (pe_tup (pa_cons pe_str pa_nil)) (pa_cons (pe_tup (pa_cons pe_str (pa_cons (pe_ix (ixL K) (pv 3) pe_int (fun _ _ => rfl)) pa_nil))) pa_nil))) pa_nil))))) (pg_sub (pv 9) (pv 10) set_list)))
 pss_nil)))
 (pss_one (ps_ret (pe_tup (pa_cons (pv 4) (pa_cons (pv 5) (pa_cons (pv 6) (pa_cons (pv 9) pa_nil))))))))))))))))))), ?_⟩
  refine ⟨_, rfl, _, _, rfl, rfl, ⟨by decide, by decide, by decide⟩, _, _, rfl, rfl, ⟨by decide, by decide, by decide⟩, szc 8, fun p1 n1 => ⟨p1, c, [10 ^ 9, 5, 5, 8, 5, 10, 4, 10 ^ 9], rfl, sq upd_same, by decide, by decide, fun H1 pd ds s1 nd ed dk => ?_⟩⟩
  have sm1 := (same_new n1).trans s1
  obtain ⟨x0, r0, rfl, x00, x01, dk⟩ := dk.cons
  obtain ⟨x1, r1, rfl, x10, x11, dk⟩ := dk.cons
  obtain ⟨x2, r2, rfl, x20, x21, dk⟩ := dk.cons
  obtain ⟨x3, r3, rfl, x30, x31, dk⟩ := dk.cons
  obtain ⟨x4, r4, rfl, x40, x41, dk⟩ := dk.cons
  obtain ⟨x5, r5, rfl, x50, x51, dk⟩ := dk.cons
  obtain ⟨x6, r6, rfl, x60, x61, dk⟩ := dk.cons
  obtain ⟨x7, r7, rfl, x70, x71, dk⟩ := dk.cons
  have sd1 := sq (K := K) ed
  clear dk nd s1 n1
  -- names, shares
  refine ⟨_, rfl, _, _, _, _, rfl, rfl, sd1, atI_nat (j := 7) rfl, _, 30, 30, rfl, rfl, by decide, fun H2 pn ss s2 nn en n30 n20 => ?_⟩
  have sm2 := sm1.trans s2
  have sd2 := s2.seq sd1
  have sn2 := sq (K := K) en
  refine ⟨_, rfl, _, _, _, _, rfl, rfl, sd2, atI_nat (j := 0) rfl, _, rfl, _, pn, ss, rfl, sn2, by omega, fun H3 vsh shs s3 dsh shok shn shl r16 r8 => ?_⟩
  obtain ⟨ash, xsh, rfl, hsh, dxsh⟩ := dp_lst dsh
  have sm3 := sm2.trans s3
  have sd3 := s3.seq sd2
  have sn3 := s3.seq sn2
  have dsh3 : Dp K (Nw H H3) (.ref ash) (.list (shs.map VarT.data)) := dp_mono (nw_mono sm2 (Same.refl _)) (.lst hsh dxsh)
  have hsh3 : SqL K H3 ash xsh := nw_same.seq hsh
  have lsh := dpa_len dxsh
  rw [List.length_map] at lsh
  have dxsh3 := dpAll_mono nw_same dxsh
  clear dsh hsh dxsh s3 s2 nn en
  -- locks
  obtain ⟨L1, gL1, hL1⟩ : ∃ L : Nat, atI [V.int 0, V.int 1, V.int 1, V.int 2, V.int 2] x1 = some (.int (L : Int)) ∧ L ≤ 2 := by
    have : x1 = 0 ∨ x1 = 1 ∨ x1 = 2 ∨ x1 = 3 ∨ x1 = 4 := by omega
    rcases this with rfl | rfl | rfl | rfl | rfl
    · exact ⟨0, rfl, by decide⟩
    · exact ⟨1, rfl, by decide⟩
    · exact ⟨1, rfl, by decide⟩
    · exact ⟨2, rfl, by decide⟩
    · exact ⟨2, rfl, by decide⟩
  refine ⟨_, rfl, _, rfl, szc 5, fun q1 m1 => ?_⟩
  have t1 := same_new m1 (o := HO.lst [V.int 0, V.int 1, V.int 1, V.int 2, V.int 2])
  refine ⟨_, rfl, _, _, _, _, rfl, rfl, t1.seq sd3, atI_nat (j := 1) rfl, _, _, _, _, rfl, rfl, sq upd_same, gL1, _, _, rfl, rfl, _, rfl, pn, _, rfl, t1.seq sn3, fun lk nlk => ?_⟩
  rw [cut_str (i := 16) (j := 16 + (L1 : Int)) (a := 16) (n := L1) (by omega) rfl (by omega)]
  have t2 := same_new nlk (o := HO.lst (((ss.drop 16).take L1).map V.str))
  have elk := (upd_same : (upd (upd H3 q1 (.lst [V.int 0, V.int 1, V.int 1, V.int 2, V.int 2])) lk (.lst (((ss.drop 16).take L1).map V.str))) lk = some (.lst (((ss.drop 16).take L1).map V.str)))
  have s34 := t1.trans t2
  have flk := (sm3.trans t1).free nlk
  generalize upd (upd H3 q1 (.lst [V.int 0, V.int 1, V.int 1, V.int 2, V.int 2])) lk (.lst (((ss.drop 16).take L1).map V.str)) = H4 at s34 elk ⊢
  clear t1 t2 m1 nlk
  refine ⟨fun σ' H' => ∃ (la : Addr) (locks : List Str), σ' = [some (.int c), some (.int mo), some (.ref pd), some (.ref pn), some (.ref ash), some (.ref la), none, none, none, none, none, none, none, none, none] ∧ Same H3 H' ∧ H la = none ∧ H' la = some (.lst (locks.map V.str)) ∧ ((∃ m, m ≤ 2 ∧ locks = (ss.drop 16).take m) ∨ (shs.length < 2 ∧ locks = (ss.drop 16).take 3)), ?_, ?_⟩
  · refine ifS (b := _) (ansAnd (fun Q q => ⟨_, rfl, ash, _, rfl, .inl (s34.seq hsh3), _, _, rfl, rfl, _, rfl, q⟩) (fun Q q => ⟨_, rfl, _, _, _, _, rfl, rfl, s34.seq sd3, atI_nat (j := 1) rfl, rfl, _, rfl, q⟩)) (fun hb => ?_) (fun _ => ⟨lk, _, rfl, s34, flk, elk, .inl ⟨L1, hL1, rfl⟩⟩)
    have hl2 := of_decide_eq_true (and_true_l hb)
    refine ⟨_, rfl, _, rfl, _, rfl, pn, _, rfl, s34.seq sn3, fun g ng => ?_⟩
    rw [cut_str (i := 16) (j := 19) (a := 16) (n := 3) (by omega) rfl rfl]
    exact ⟨g, _, rfl, s34.trans (same_new ng), (sm3.trans s34).free ng, upd_same, .inr ⟨by omega, rfl⟩⟩
  rintro σ' H5 ⟨la, locks, rfl, s35, fla, ela, hlk⟩
  refine ⟨fun σ' H' => ∃ (la : Addr) (locks : List Str), σ' = [some (.int c), some (.int mo), some (.ref pd), some (.ref pn), some (.ref ash), some (.ref la), none, none, none, none, none, none, none, none, none] ∧ Same H3 H' ∧ H la = none ∧ H' la = some (.lst (locks.map V.str)) ∧ ((∃ m, m ≤ 2 ∧ locks = (ss.drop 16).take m) ∨ (shs.length < 2 ∧ locks = (ss.drop 16).take 3) ∨ (shs.length = 0 ∧ locks = (ss.drop 16).take 3 ++ (ss.drop 26).take 3)), ?_, ?_⟩
  · refine ifS (b := _) (ansAnd (fun Q q => ⟨_, rfl, ash, _, rfl, .inl (s35.seq hsh3), rfl, _, rfl, q⟩) (fun Q q => ⟨_, rfl, _, _, _, _, rfl, rfl, s35.seq sd3, atI_nat (j := 1) rfl, rfl, _, rfl, q⟩)) (fun hb => ?_) (fun _ => ⟨la, locks, rfl, s35, fla, ela, hlk.imp id .inl⟩)
    have hl0 := V.int.inj (of_decide_eq_true (and_true_l hb))
    refine ⟨_, rfl, _, rfl, _, rfl, pn, _, rfl, s35.seq sn3, fun g ng => ?_⟩
    rw [cut_str (i := 16) (j := 19) (a := 16) (n := 3) (by omega) rfl rfl]
    have tg := same_new ng (o := HO.lst (((ss.drop 16).take 3).map V.str))
    refine ⟨_, rfl, _, rfl, _, rfl, pn, _, rfl, tg.seq (s35.seq sn3), fun g2 ng2 => ?_⟩
    rw [cut_str (i := 26) (j := 29) (a := 26) (n := 3) (by omega) rfl rfl]
    have tg2 := same_new ng2 (o := HO.lst (((ss.drop 26).take 3).map V.str))
    refine ⟨_, _, _, _, rfl, rfl, sq (tg2 _ _ upd_same), sq upd_same, ?_, fun g3 ng3 => ?_⟩
    · rw [List.length_map, List.length_map, List.length_take, List.length_take]
      exact sz (by omega)
    refine ⟨g3, (ss.drop 16).take 3 ++ (ss.drop 26).take 3, rfl, ((s35.trans tg).trans tg2).trans (same_new ng3), (((sm3.trans s35).trans tg).trans tg2).free ng3, ?_, .inr (.inr ⟨by omega, rfl⟩)⟩
    rw [List.map_append]
    exact upd_same
  clear ela fla hlk s35 elk flk s34
  rintro σ' H6 ⟨la, locks, rfl, s36, fla, ela, hlk⟩
  have locks6 : locks.length ≤ 6 := by
    rcases hlk with ⟨m, hm, rfl⟩ | ⟨_, rfl⟩ | ⟨_, rfl⟩
    · rw [List.length_take]; omega
    · rw [List.length_take]; omega
    · rw [List.length_append, List.length_take, List.length_take]; omega
  have sm6 := sm3.trans s36
  -- bells
  obtain ⟨L2, gL2, hL2⟩ : ∃ L : Nat, atI [V.int 0, V.int 1, V.int 1, V.int 2, V.int 3] x2 = some (.int (L : Int)) ∧ L ≤ 3 := by
    have : x2 = 0 ∨ x2 = 1 ∨ x2 = 2 ∨ x2 = 3 ∨ x2 = 4 := by omega
    rcases this with rfl | rfl | rfl | rfl | rfl
    · exact ⟨0, rfl, by decide⟩
    · exact ⟨1, rfl, by decide⟩
    · exact ⟨1, rfl, by decide⟩
    · exact ⟨2, rfl, by decide⟩
    · exact ⟨3, rfl, by decide⟩
  refine ⟨_, rfl, _, rfl, szc 5, fun q1 m1 => ?_⟩
  have t1 := same_new m1 (o := HO.lst [V.int 0, V.int 1, V.int 1, V.int 2, V.int 3])
  refine ⟨_, rfl, _, _, _, _, rfl, rfl, t1.seq (s36.seq sd3), atI_nat (j := 2) rfl, _, _, _, _, rfl, rfl, sq upd_same, gL2, _, _, rfl, rfl, _, rfl, pn, _, rfl, t1.seq (s36.seq sn3), fun be nbe => ?_⟩
  rw [cut_str (i := 19) (j := 19 + (L2 : Int)) (a := 19) (n := L2) (by omega) rfl (by omega)]
  have t2 := same_new nbe (o := HO.lst (((ss.drop 19).take L2).map V.str))
  have ebe := (upd_same : (upd (upd H6 q1 (.lst [V.int 0, V.int 1, V.int 1, V.int 2, V.int 3])) be (.lst (((ss.drop 19).take L2).map V.str))) be = some (.lst (((ss.drop 19).take L2).map V.str)))
  have s37 := (s36.trans t1).trans t2
  have fbe := (sm6.trans t1).free nbe
  have ela7 := t2 _ _ (t1 _ _ ela)
  generalize upd (upd H6 q1 (.lst [V.int 0, V.int 1, V.int 1, V.int 2, V.int 3])) be (.lst (((ss.drop 19).take L2).map V.str)) = H7 at s37 ebe ela7 ⊢
  clear t1 t2 m1 nbe ela
  -- titles
  obtain ⟨L3, gL3, hL3⟩ : ∃ L : Nat, atI [V.int 0, V.int 0, V.int 1, V.int 1, V.int 1, V.int 2, V.int 2, V.int 3] x3 = some (.int (L : Int)) ∧ L ≤ 3 := by
    have : x3 = 0 ∨ x3 = 1 ∨ x3 = 2 ∨ x3 = 3 ∨ x3 = 4 ∨ x3 = 5 ∨ x3 = 6 ∨ x3 = 7 := by omega
    rcases this with rfl | rfl | rfl | rfl | rfl | rfl | rfl | rfl
    · exact ⟨0, rfl, by decide⟩
    · exact ⟨0, rfl, by decide⟩
    · exact ⟨1, rfl, by decide⟩
    · exact ⟨1, rfl, by decide⟩
    · exact ⟨1, rfl, by decide⟩
    · exact ⟨2, rfl, by decide⟩
    · exact ⟨2, rfl, by decide⟩
    · exact ⟨3, rfl, by decide⟩
  refine ⟨_, rfl, _, rfl, szc 8, fun q1 m1 => ?_⟩
  have t1 := same_new m1 (o := HO.lst [V.int 0, V.int 0, V.int 1, V.int 1, V.int 1, V.int 2, V.int 2, V.int 3])
  refine ⟨_, rfl, _, _, _, _, rfl, rfl, t1.seq (s37.seq sd3), atI_nat (j := 3) rfl, _, _, _, _, rfl, rfl, sq upd_same, gL3, _, _, rfl, rfl, _, rfl, pn, _, rfl, t1.seq (s37.seq sn3), fun ti nti => ?_⟩
  rw [cut_str (i := 22) (j := 23 + (L3 : Int)) (a := 22) (n := L3 + 1) (by omega) rfl (by omega)]
  have tlen : ((ss.drop 22).take (L3 + 1)).length = L3 + 1 := by rw [List.length_take, List.length_drop]; omega
  have ht0 : (ss.drop 22).take (L3 + 1) = (ss.drop 22).take (L3 + 1) := rfl
  generalize hti : (ss.drop 22).take (L3 + 1) = titles at tlen ht0 ⊢
  have t2 := same_new nti (o := HO.lst (titles.map V.str))
  have eti := (upd_same : (upd (upd H7 q1 (.lst [V.int 0, V.int 0, V.int 1, V.int 1, V.int 1, V.int 2, V.int 2, V.int 3])) ti (.lst (titles.map V.str))) ti = some (.lst (titles.map V.str)))
  have s38 := (s37.trans t1).trans t2
  have ela8 := t2 _ _ (t1 _ _ ela7)
  have ebe8 := t2 _ _ (t1 _ _ ebe)
  generalize upd (upd H7 q1 (.lst [V.int 0, V.int 0, V.int 1, V.int 1, V.int 1, V.int 2, V.int 2, V.int 3])) ti (.lst (titles.map V.str)) = H8 at s38 eti ela8 ebe8 ⊢
  clear t1 t2 m1 nti ela7 ebe s37
  -- w
  have hsh8 := s38.seq hsh3
  refine ⟨_, rfl, ash, rfl, ⟨_, hsh8⟩, fun D nD => lc_list (xs := xsh) (fun i H' => Same H8 H' ∧ H' D = some (.lst (((shs.take i).map (·.nm)).map V.str))) ⟨same_new nD, upd_same⟩ (fun i H' _ p => p.1.seq hsh8) ?_ ?_⟩
  · rintro i x H' hx ⟨sm, eD⟩
    obtain ⟨d, hdi, dx⟩ := dpa_at dxsh3 hx
    rw [List.getElem?_map] at hdi
    obtain ⟨vt, hvi, rfl⟩ : ∃ s, shs[i]? = some s ∧ s.data = d := by
      cases h : shs[i]? with
      | none => rw [h] at hdi; cases hdi
      | some s => rw [h] at hdi; exact ⟨s, rfl, Option.some.inj hdi⟩
    obtain ⟨t, rfl, htt⟩ := var_dp (dp_mono (s38.trans sm) dx)
    refine ⟨rfl, _, rfl, _, _, _, _, rfl, rfl, htt, atI_nat (j := 0) rfl, _, eD, ?_, Same.mut sm nD, ?_⟩
    · rw [List.length_map, List.length_map, List.length_take]
      exact szl (by omega)
    · rw [upd_same, take_snoc hvi, List.map_append, List.map_append]
      rfl
  rintro H9 ⟨s9, eD⟩
  rw [List.take_of_length_le (by omega)] at eD
  have s39 := s38.trans s9
  refine ⟨_, rfl, _, rfl, _, rfl, _, rfl, szc 5, fun wt nwt => ?_⟩
  have sB := same_new nwt (o := HO.tup [V.ref D, V.ref la, V.ref be, V.ref ti, V.ref pn])
  have eB : (upd H9 wt (.tup [V.ref D, V.ref la, V.ref be, V.ref ti, V.ref pn])) wt = some (.tup [V.ref D, V.ref la, V.ref be, V.ref ti, V.ref pn]) := upd_same
  generalize upd H9 wt (.tup [V.ref D, V.ref la, V.ref be, V.ref ti, V.ref pn]) = HB at sB eB ⊢
  have s3B := s39.trans sB
  have wB : WOk K HB wt ⟨shs.map (·.nm), locks, (ss.drop 19).take L2, titles, ss⟩ := ⟨D, la, be, ti, pn, st eB, sq (sB _ _ eD), sq (sB _ _ (s9 _ _ ela8)), sq (sB _ _ (s9 _ _ ebe8)), sq (sB _ _ (s9 _ _ eti)), s3B.seq sn3⟩
  have eO : GE.Ok ⟨shs.map (·.nm), locks, (ss.drop 19).take L2, titles, ss⟩ := ⟨locks6, by show (shs.map (·.nm)).length ≤ 10; rw [List.length_map]; omega, by show 0 < titles.length; omega, by show 0 < ss.length; omega⟩
  have elaB := sB _ _ (s9 _ _ ela8)
  have ebeB := sB _ _ (s9 _ _ ebe8)
  have etiB := sB _ _ (s9 _ _ eti)
  have sdB := s3B.seq sd3
  have snB := s3B.seq sn3
  have smB := sm3.trans s3B
  have dshB : Dp K (Nw H HB) (.ref ash) (.list (shs.map VarT.data)) := dp_mono (nw_mono (Same.refl _) s3B) dsh3
  clear eD ela8 ebe8 eti s9 sB nwt eB hsh8 s38 s39
  -- kinds
  refine ⟨szc 0, fun o no => ?_⟩
  have hO : (upd HB o (.lst [])) o = some (.lst []) := upd_same
  have tO := same_new no (o := HO.lst [])
  generalize hHZ : upd HB o (.lst []) = HZ at tO hO ⊢
  have hlen : (((titles.map V.str).length : Nat) : Int).toNat = L3 + 1 := by rw [List.length_map, tlen]; omega
  have hlI : (((titles.map V.str).length : Nat) : Int) = ((L3 + 1 : Nat) : Int) := by rw [List.length_map, tlen]
  refine ⟨_, rfl, ti, _, rfl, .inl (sq (tO _ _ etiB)), _, rfl, by omega, by omega, ?_⟩
  rw [hlen]
  have hpos : (0 : Int) < ((titles.map V.str).length : Nat) := by omega
  obtain ⟨bb, hbb, hb1⟩ : ∃ b : Nat, Builtin.bitAnd x7 1 = (b : Int) ∧ b ≤ 1 := by
    have : Builtin.bitAnd x7 1 = x7 % 2 := Bits.bitAnd_mask 1 x70
    exact ⟨(x7 % 2).toNat, by rw [this]; omega, by omega⟩
  have m0 := Int.emod_nonneg x6 (show (((titles.map V.str).length : Nat) : Int) ≠ 0 by omega)
  have m1 := Int.emod_lt_of_pos x6 hpos
  refine for_range (lo := 0) (n := L3 + 1) (fun i σ' H' => ∃ (y10 y11 y12 : Option V) (ks : List KT) (xs : List V), σ' = [some (.int c), some (.int mo), some (.ref pd), some (.ref pn), some (.ref ash), some (.ref la), some (.ref be), some (.ref ti), some (.ref wt), some (.ref o), y10, y11, y12, none, none] ∧ Same HB H' ∧ H' o = some (.lst xs) ∧ DpAll K (Nw HZ H') xs (ks.map KT.data) ∧ ks.length = i ∧
    ∀ (j : Nat) k, ks[j]? = some k → KOk ⟨shs.map (·.nm), locks, (ss.drop 19).take L2, titles, ss⟩ ss (x6 % ((titles.map V.str).length : Nat)).toNat bb j k) ?_ ?_ ?_
  · exact ⟨none, none, none, [], [], rfl, tO, hO, .nil, rfl, fun j k h => by simp at h⟩
  · rintro i σ' H' hi ⟨y10, y11, y12, ks, xs, rfl, sm, eo, dks, kl, kok⟩
    have xl := dpa_len dks
    rw [List.length_map] at xl
    obtain ⟨nm, gnm⟩ : ∃ nm, titles[i]? = some nm := ⟨_, List.getElem?_eq_getElem (by omega)⟩
    have hz : (0 : Int) + (i : Int) = (i : Int) := by omega
    -- count
    have b4 : Builtin.bitAnd (x4 + (0 + (i : Int))) 3 = (x4 + (0 + (i : Int))) % 4 := Bits.bitAnd_mask 2 (by omega)
    obtain ⟨cn, gcn, cn0, cn9⟩ : ∃ cn : Int, atI [V.int 0, V.int 1, V.int 2, V.int x5] (Builtin.bitAnd (x4 + (0 + (i : Int))) 3) = some (.int cn) ∧ 0 ≤ cn ∧ cn ≤ 9 := by
      rw [b4]
      have h03 : (x4 + (0 + (i : Int))) % 4 = 0 ∨ (x4 + (0 + (i : Int))) % 4 = 1 ∨ (x4 + (0 + (i : Int))) % 4 = 2 ∨ (x4 + (0 + (i : Int))) % 4 = 3 := by omega
      rcases h03 with h | h | h | h <;> rw [h]
      · exact ⟨0, rfl, by decide, by decide⟩
      · exact ⟨1, rfl, by decide, by decide⟩
      · exact ⟨2, rfl, by decide, by decide⟩
      · exact ⟨x5, rfl, x50, by omega⟩
    refine ⟨_, rfl, _, _, _, _, rfl, rfl, sm.seq sdB, atI_nat (j := 5) rfl, szc 4, fun q1 mq => ?_⟩
    have t1 := same_new mq (o := HO.lst [V.int 0, V.int 1, V.int 2, V.int x5])
    refine ⟨_, rfl, _, _, _, _, rfl, rfl, t1.seq (sm.seq sdB), atI_nat (j := 4) rfl, _, rfl, _, _, rfl, rfl, .inl ⟨_, rfl, _, _, rfl, rfl, _, _, _, _, rfl, rfl, sq upd_same, gcn, ?_⟩⟩
    have sm1' := sm.trans t1
    have eo1 := t1 _ _ eo
    generalize upd H' q1 (.lst [V.int 0, V.int 1, V.int 2, V.int x5]) = H1' at t1 sm1' eo1 ⊢
    refine ⟨fun σ' H'' => ∃ cnt : Option Int, σ' = [some (.int c), some (.int mo), some (.ref pd), some (.ref pn), some (.ref ash), some (.ref la), some (.ref be), some (.ref ti), some (.ref wt), some (.ref o), some (.int (0 + (i : Int))), some (cntV cnt), y12, none, none] ∧ H1' = H'' ∧ (cnt = none ↔ i = (x6 % ((titles.map V.str).length : Nat)).toNat) ∧ ∀ z, cnt = some z → 0 ≤ z ∧ z ≤ 9, ?_, ?_⟩
    · refine ifS (b := _) (fun Q q => ⟨_, rfl, _, rfl, _, _, _, _, rfl, rfl, sm1'.seq sdB, atI_nat (j := 6) rfl, .inl ⟨_, rfl, _, rfl, ti, _, rfl, .inl (sq (sm1' _ _ etiB)), _, _, rfl, rfl, hpos, rfl, _, rfl, q⟩⟩) (fun hb => ?_) (fun hb => ?_)
      · have h := V.int.inj (of_decide_eq_true hb)
        exact ⟨none, rfl, rfl, ⟨fun _ => by omega, fun _ => rfl⟩, fun z hz => by cases hz⟩
      · have h := of_decide_eq_false hb
        exact ⟨some cn, rfl, rfl, ⟨(fun z => by cases z), fun z => absurd (congrArg V.int (show (0 : Int) + (i : Int) = x6 % ((titles.map V.str).length : Nat) by omega)) h⟩, fun z hz => by cases hz; exact ⟨cn0, cn9⟩⟩
    rintro σ' H'' ⟨cnt, rfl, rfl, cn1, cn2⟩
    -- first
    have ef : (4 : Int) + 3 * (0 + (i : Int)) * Builtin.bitAnd x7 1 = ((4 + 3 * i * bb : Nat) : Int) := by
      rw [hbb, hz]
      simp
    have hb3 : 3 * i * bb ≤ 9 := by
      have : 3 * i * bb ≤ 3 * i * 1 := Nat.mul_le_mul_left _ hb1
      omega
    refine ⟨_, rfl, _, _, rfl, rfl, .inl ⟨by decide, by decide⟩, _, rfl, _, _, _, _, rfl, rfl, sm1'.seq sdB, atI_nat (j := 7) rfl, _, _, rfl, rfl, .inl ⟨_, rfl, _, _, rfl, rfl, .inl ⟨by omega, by omega⟩, _, _, rfl, rfl, ?_⟩⟩
    -- append
    have l3 : ((ss.drop (4 + 3 * i * bb)).take 3).length = 3 := by rw [List.length_take, List.length_drop]; omega
    obtain ⟨o0, o1, o2, ho⟩ : ∃ o0 o1 o2, (ss.drop (4 + 3 * i * bb)).take 3 = [o0, o1, o2] := by
      match (ss.drop (4 + 3 * i * bb)).take 3, l3 with
      | [a, b, c], _ => exact ⟨a, b, c, rfl⟩
    refine ⟨_, rfl, .inl ⟨rfl, _, sq eo1⟩, ?_⟩
    refine ⟨_, rfl, .inl ⟨_, rfl, _, rfl, _, _, rfl, rfl, _, _, rfl, rfl, ⟨by omega, by omega⟩, _, rfl, _, _, rfl, rfl, .inl ⟨by decide, by decide⟩, _, _, rfl, rfl, ?_⟩⟩
    refine ⟨_, rfl, _, rfl, _, _, _, _, rfl, rfl, sq (sm1' _ _ etiB), at_of (j := i) hz (get_map gnm), _, rfl, _, rfl, _, rfl, _, rfl, _, rfl, _, _, rfl, rfl, _, rfl, pn, _, rfl, sm1'.seq snB, fun g ng => ?_⟩
    rw [ef, cut_str (i := ((4 + 3 * i * bb : Nat) : Int)) (j := ((4 + 3 * i * bb : Nat) : Int) + 3) (a := 4 + 3 * i * bb) (n := 3) (by omega) rfl (by omega), ho]
    have tg := same_new ng (o := HO.lst ([o0, o1, o2].map V.str))
    have sm2' := sm1'.trans tg
    refine ⟨_, rfl, _, nm, cnt, g, wt, o0, o1, o2, ⟨shs.map (·.nm), locks, (ss.drop 19).take L2, titles, ss⟩, rfl, sq upd_same, wB.mono sm2', eO, by show (shs.map (·.nm)).length ≤ 4; rw [List.length_map]; exact shl, fun H5 v k s5 dk5 kn kc kok5 => ?_⟩
    have s15 := (t1.trans tg).trans s5
    refine ⟨o, xs, v, rfl, rfl, s15 _ _ eo, szl (by omega), ?_⟩
    refine ⟨_, _, _, ks ++ [k], xs ++ [v], rfl, ?_, upd_same, ?_, by rw [List.length_append, kl]; rfl, ?_⟩
    · exact Same.mut (sm.trans s15) no
    · rw [List.map_append]
      have hdm : Dm HZ H' := by rw [← hHZ]; exact dm_upd sm eo
      exact dpa_app (dpAll_mono ((nw_mono2 (fun _ h => h) s15).trans (nw_upd hO)) dks) (.cons (dp_mono ((nw_mono2 (hdm.trans (Same.dm (t1.trans tg))) (Same.refl _)).trans (nw_upd hO)) dk5) .nil)
    · intro j y hy
      rcases Nat.lt_or_ge j ks.length with h | h
      · rw [List.getElem?_append_left h] at hy
        exact kok j y hy
      · rw [List.getElem?_append_right h] at hy
        have hj : j - ks.length = 0 := by
          rcases Nat.eq_zero_or_pos (j - ks.length) with h0 | h0
          · exact h0
          · rw [List.getElem?_eq_none (by show 1 ≤ _; omega)] at hy; cases hy
        rw [hj] at hy
        have e := Option.some.inj hy
        subst e
        have ej : j = i := by omega
        subst ej
        exact ⟨by rw [kn]; exact gnm, ⟨by rw [kc]; exact cn1, fun z hz => cn2 z (by rw [← kc]; exact hz)⟩, .inr ⟨o0, o1, o2, ho, kok5⟩⟩
  rintro σ' HC ⟨y10, y11, y12, ks0, xs0, rfl, smC, eo0, dks0, kl0, kok0⟩
  have xl0 := dpa_len dks0
  rw [List.length_map] at xl0
  obtain ⟨mk, gmk⟩ : ∃ mk, ss[26]? = some mk := ⟨_, List.getElem?_eq_getElem (by omega)⟩
  refine ⟨_, rfl, o, _, rfl, .inl (sq eo0), _, rfl, by omega, by omega, ?_⟩
  rw [show (((xs0.length : Nat) : Int)).toNat = L3 + 1 by omega]
  have kokb : ∀ {j : Nat} {k : KT}, KOk ⟨shs.map (·.nm), locks, (ss.drop 19).take L2, titles, ss⟩ ss (x6 % ((titles.map V.str).length : Nat)).toNat bb j k → depL k.body < 12 ∧ shtL k.body ∧ ∀ x ∈ k.locs, x.Ok := fun {j k} h => by
    rcases h.ok with ⟨h1, m, _, h2⟩ | ⟨_, _, _, _, h⟩
    · rw [h1, h2]
      exact ⟨by show 0 < 12; decide, ⟨trivial, by show 1 < 2000; decide, trivial, by decide, trivial⟩, fun x hx => by cases hx⟩
    · obtain ⟨n, hn, g⟩ := h.bod
      have := gk_sht g
      exact ⟨by omega, this.1, h.vs⟩
  refine for_range (lo := 0) (n := L3 + 1) (fun i σ' H' => ∃ (y10 y11 y12 : Option V) (ks : List KT) (xs : List V), σ' = [some (.int c), some (.int mo), some (.ref pd), some (.ref pn), some (.ref ash), some (.ref la), some (.ref be), some (.ref ti), some (.ref wt), some (.ref o), y10, y11, y12, none, none] ∧ Same HB H' ∧ H' o = some (.lst xs) ∧ DpAll K (Nw HZ H') xs (ks.map KT.data) ∧ ks.length = L3 + 1 ∧
    (∀ (j : Nat) k, ks[j]? = some k → KOk ⟨shs.map (·.nm), locks, (ss.drop 19).take L2, titles, ss⟩ ss (x6 % ((titles.map V.str).length : Nat)).toNat bb j k) ∧ ((ks.map KT.room).sum ≤ 96 ∨ ∀ (j : Nat) k, j < i → ks[j]? = some k → k.Small ss)) ?_ ?_ ?_
  · exact ⟨y10, y11, y12, ks0, xs0, rfl, smC, eo0, dks0, kl0, kok0, .inr fun j k h => absurd h (Nat.not_lt_zero _)⟩
  · rintro i σ' H' hi ⟨y10, y11, y12, ks, xs, rfl, sm, eo, dks, kl, kok, hrm⟩
    have xl := dpa_len dks
    rw [List.length_map] at xl
    have hdm : Dm HZ H' := by rw [← hHZ]; exact dm_upd sm eo
    have hz : (0 : Int) + (i : Int) = (i : Int) := by omega
    refine ⟨_, rfl, o, rfl, ⟨_, sq eo⟩, fun D nD => lc_list (xs := xs) (fun j H'' => Same H' H'' ∧ H'' D = some (.lst (((ks.take j).map KT.room).map V.int))) ⟨same_new nD, upd_same⟩ (fun _ H'' _ p => p.1.seq (sq eo)) ?_ ?_⟩
    · rintro j x H'' hx ⟨smj, eD⟩
      obtain ⟨d, hdj, dx⟩ := dpa_at dks hx
      rw [List.getElem?_map] at hdj
      obtain ⟨k, hkj, rfl⟩ : ∃ s, ks[j]? = some s ∧ s.data = d := by
        cases h : ks[j]? with
        | none => rw [h] at hdj; cases hdj
        | some s => rw [h] at hdj; exact ⟨s, rfl, Option.some.inj hdj⟩
      obtain ⟨k1, k2, k3⟩ := kokb (kok j k hkj)
      refine ⟨rfl, _, rfl, x, k, rfl, dp_mono (nw_same.trans smj) dx, k1, k2, k3, fun H5 s5 => ⟨_, s5 _ _ eD, ?_, Same.mut (smj.trans s5) nD, ?_⟩⟩
      · rw [List.length_map, List.length_map, List.length_take]
        exact szl (by omega)
      · rw [upd_same, take_snoc hkj, List.map_append, List.map_append]
        rfl
    rintro H2' ⟨s2', eD⟩
    rw [List.take_of_length_le (by omega)] at eD
    have sm2' := sm.trans s2'
    have eo2 := s2' _ _ eo
    have dks2 := dpAll_mono (nw_mono2 (fun _ h => h) s2') dks
    refine ⟨D, _, rfl, sq eD, _, _, rfl, rfl, _, rfl, ite2 (fun hb => ?_) (fun hb => ?_)⟩
    · -- too large: the kind is made small
      have hx : xs[i]? = some xs[i] := List.getElem?_eq_getElem (by omega)
      obtain ⟨d, hdi, dx⟩ := dpa_at dks2 hx
      rw [List.getElem?_map] at hdi
      obtain ⟨k, hki, rfl⟩ : ∃ s, ks[i]? = some s ∧ s.data = d := by
        cases h : ks[i]? with
        | none => rw [h] at hdi; cases hdi
        | some s => rw [h] at hdi; exact ⟨s, rfl, Option.some.inj hdi⟩
      obtain ⟨ka, kb, kc, cv, kxs, kys, ev, hka, hcv, _⟩ := kt_dp (dp_mono nw_same dx)
      have hcv2 : cv = cntV k.cnt := by
        cases hc : k.cnt with
        | none => rw [hc] at hcv; cases hcv; rfl
        | some z => rw [hc] at hcv; cases hcv; rfl
      subst hcv2
      rw [ev] at hx
      refine ⟨_, rfl, _, rfl, _, _, _, _, rfl, rfl, sq eo2, at_of (j := i) hz hx, _, _, _, _, rfl, rfl, hka, atI_nat (j := 0) rfl, _, rfl, _, rfl, _, _, _, _, rfl, rfl, sq eo2, at_of (j := i) hz hx, _, _, _, _, rfl, rfl, hka, atI_nat (j := 1) rfl, szc 0, fun a1 m1 => ?_⟩
      have t1 := same_new m1 (o := HO.lst [])
      have e1 : (upd H2' a1 (.lst [])) a1 = some (.lst []) := upd_same
      generalize upd H2' a1 (.lst []) = K1 at t1 e1 ⊢
      refine ⟨szc 1, fun a2 m2 => ?_⟩
      have t2 := same_new m2 (o := HO.tup [V.str (Str.ofString "skip")])
      have e2 : (upd K1 a2 (.tup [V.str (Str.ofString "skip")])) a2 = some (.tup [V.str (Str.ofString "skip")]) := upd_same
      generalize upd K1 a2 (.tup [V.str (Str.ofString "skip")]) = K2 at t2 e2 ⊢
      refine ⟨_, rfl, _, _, _, _, rfl, rfl, ((sm2'.trans t1).trans t2).seq snB, atI_nat (j := 26) (get_map gmk), szc 2, fun a3 m3 => ?_⟩
      have t3 := same_new m3 (o := HO.tup [V.str (Str.ofString "mark"), V.str mk])
      have e3 : (upd K2 a3 (.tup [V.str (Str.ofString "mark"), V.str mk])) a3 = some (.tup [V.str (Str.ofString "mark"), V.str mk]) := upd_same
      generalize upd K2 a3 (.tup [V.str (Str.ofString "mark"), V.str mk]) = K3 at t3 e3 ⊢
      refine ⟨szc 2, fun a4 m4 => ?_⟩
      have t4 := same_new m4 (o := HO.lst [V.ref a2, V.ref a3])
      have e4 : (upd K3 a4 (.lst [V.ref a2, V.ref a3])) a4 = some (.lst [V.ref a2, V.ref a3]) := upd_same
      generalize upd K3 a4 (.lst [V.ref a2, V.ref a3]) = K4 at t4 e4 ⊢
      refine ⟨szc 4, fun a5 m5 => ?_⟩
      have t5 := same_new m5 (o := HO.tup [V.str k.nm, cntV k.cnt, V.ref a1, V.ref a4])
      have e5 : (upd K4 a5 (.tup [V.str k.nm, cntV k.cnt, V.ref a1, V.ref a4])) a5 = some (.tup [V.str k.nm, cntV k.cnt, V.ref a1, V.ref a4]) := upd_same
      generalize upd K4 a5 (.tup [V.str k.nm, cntV k.cnt, V.ref a1, V.ref a4]) = K5 at t5 e5 ⊢
      have u4 := t5
      have u3 := t4.trans u4
      have u2 := t3.trans u3
      have u1 := t2.trans u2
      have u0 := t1.trans u1
      have smK := sm2'.trans u0
      have hd2 : Dm HZ H2' := hdm.trans (Same.dm s2')
      have at' : ∀ {Hx : Hp} {p : Addr} {ob : HO}, Same H2' Hx → Hx p = none → K5 p = some ob → Nw HZ K5 p = some ob := fun sx hp he => (nw_at (hd2 _ (sx.free hp))).trans he
      have dnew : Dp K (Nw HZ K5) (.ref a5) (KT.data ⟨k.nm, k.cnt, [], [.skip, .mark mk]⟩) := .tup (st (at' ((t1.trans t2).trans (t3.trans t4)) m5 e5)) (.cons (.str _) (.cons (cnt_dp k.cnt) (.cons (.lst (sq (at' (Same.refl _) m1 (u1 _ _ e1))) .nil) (.cons (.lst (sq (at' ((t1.trans t2).trans t3) m4 (u4 _ _ e4))) (.cons (.tup (st (at' t1 m2 (u2 _ _ e2))) (.cons (.str _) .nil)) (.cons (.tup (st (at' (t1.trans t2) m3 (u3 _ _ e3))) (.cons (.str _) (.cons (.str _) .nil))) .nil))) .nil))))
      have hix : ixN xs.length ((0 : Int) + (i : Int)) = some i := by
        rw [hz]
        unfold ixN
        rw [if_pos (by omega), if_pos (by omega)]
        rfl
      refine ⟨_, rfl, _, rfl, o, xs, _, i, rfl, rfl, u0 _ _ eo2, hix, ?_⟩
      have hO5 : HZ o = some (.lst []) := hO
      refine ⟨_, y11, y12, ks.set i ⟨k.nm, k.cnt, [], [.skip, .mark mk]⟩, xs.set i (.ref a5), rfl, Same.mut smK no, upd_same, ?_, by rw [List.length_set]; exact kl, ?_, .inr ?_⟩
      · rw [List.map_set]
        exact dpAll_mono (nw_upd hO5) (dpa_set dnew i (dpAll_mono (nw_mono2 (fun _ h => h) u0) dks2))
      · intro j y hy
        by_cases hji : i = j
        · subst hji
          rw [List.getElem?_set_self (by omega)] at hy
          have e := Option.some.inj hy
          subst e
          have hk := kok i k hki
          exact ⟨hk.nm, hk.cnt, .inl ⟨rfl, mk, gmk, rfl⟩⟩
        · rw [List.getElem?_set_ne hji] at hy
          exact kok j y hy
      · intro j y hj hy
        by_cases hji : i = j
        · subst hji
          rw [List.getElem?_set_self (by omega)] at hy
          have e := Option.some.inj hy
          subst e
          exact ⟨rfl, mk, gmk, rfl⟩
        · rw [List.getElem?_set_ne hji] at hy
          have hs : ((ks.map KT.room).sum : Int) > 96 := of_decide_eq_true hb
          rcases hrm with h | h
          · omega
          · exact h j y (by omega) hy
    · have hs : ¬ ((ks.map KT.room).sum : Int) > 96 := of_decide_eq_false (Bool.eq_false_iff.mpr hb)
      exact ⟨_, y11, y12, ks, xs, rfl, sm2', eo2, dks2, kl, kok, .inl (by omega)⟩
  rintro σ' HE ⟨y10', y11', y12', ks, xs, rfl, sm, eo, dks, kl, kok, hrm⟩
  refine ⟨_, rfl, _, rfl, _, rfl, _, rfl, szc 4, fun p np => ?_⟩
  have sp := same_new np (o := HO.tup [V.ref ash, V.ref la, V.ref be, V.ref o])
  have smE := smB.trans sm
  have titl : ks.map (·.nm) = titles := by
    refine List.ext_getElem? fun j => ?_
    rw [List.getElem?_map]
    cases h : ks[j]? with
    | none =>
      have := List.getElem?_eq_none_iff.mp h
      rw [List.getElem?_eq_none (by omega)]
      rfl
    | some k =>
      have := (kok j k h).nm
      exact this.symm
  refine q _ _ ⟨shs, locks, (ss.drop 19).take L2, ks⟩ ss (smE.trans sp) (.tup (st ((nw_at (smE.free np)).trans upd_same)) (.cons (dp_mono (nw_mono (Same.refl _) (sm.trans sp)) dshB) (.cons (.lst (sq ((nw_at fla).trans (sp _ _ (sm _ _ elaB)))) (dpa_strs locks)) (.cons (.lst (sq ((nw_at fbe).trans (sp _ _ (sm _ _ ebeB)))) (dpa_strs _)) (.cons (.lst (sq ((nw_at (smB.free no)).trans (sp _ _ eo))) (dpAll_mono (nw_mono2 ?_ sp) dks)) .nil))))) ⟨n30, n20, shok, shn, shl, r16, r8, hlk, ⟨L2, hL2, rfl⟩, ⟨L3, hL3, ?_⟩, ⟨(x6 % ((titles.map V.str).length : Nat)).toNat, bb, ?_, hb1, ?_⟩, ?_⟩
  · rw [← hHZ]
    exact (Same.dm smB).trans dm_up
  · show ks.map (·.nm) = _
    rw [titl, hti]
  · show (x6 % ((titles.map V.str).length : Nat)).toNat < ks.length
    omega
  · intro j k hk
    have h := kok j k hk
    show KOk ⟨shs.map (·.nm), locks, (ss.drop 19).take L2, ks.map (·.nm), ss⟩ ss _ bb j k
    rw [titl]
    exact h
  · show (ks.map KT.room).sum ≤ 96
    rcases hrm with h | h
    · exact h
    · have hall : ∀ k ∈ ks, k.Small ss := fun k hk => by
        obtain ⟨j, hj⟩ := List.mem_iff_getElem?.mp hk
        have := (List.getElem?_eq_some_iff.mp hj).1
        exact h j k (by omega) hj
      rw [sum_small hall]
      omega
end
/-! ### what is new, beside what was there for certain -/
def Vw (V0 H H' : Hp) : Hp := fun a => match H a with
  | none => H' a
  | some _ => V0 a
theorem vw_at {V0 H H' : Hp} {a : Addr} (h : H a = none) : Vw V0 H H' a = H' a := by
  unfold Vw
  rw [h]
theorem vw_old {V0 H H' : Hp} {a : Addr} {o : HO} (h : H a = some o) : Vw V0 H H' a = V0 a := by
  unfold Vw
  rw [h]
theorem vw_same {V0 H H' : Hp} (s : Same V0 H') : Same (Vw V0 H H') H' := fun a o h => by
  cases e : H a with
  | none => rw [vw_at e] at h; exact h
  | some x => rw [vw_old e] at h; exact s _ _ h
theorem vw_base {V0 H H' : Hp} (s : Same V0 H') : Same V0 (Vw V0 H H') := fun a o h => by
  cases e : H a with
  | none => rw [vw_at e]; exact s _ _ h
  | some x => rw [vw_old e]; exact h
theorem vw_mono {V0 H H1 H2 H3 : Hp} (sV : Same V0 H) (d : Dm H H1) (t : Same H2 H3) : Same (Vw V0 H1 H2) (Vw V0 H H3) := fun a o h => by
  cases e : H1 a with
  | none => rw [vw_at e] at h; rw [vw_at (d _ e)]; exact t _ _ h
  | some x =>
    rw [vw_old e] at h
    rw [vw_old (sV _ _ h)]
    exact h
theorem vw_to {V0 H H2 H3 : Hp} (t : Same H2 H3) : Same (Vw V0 H H2) (Vw V0 H H3) := fun a o h => by
  cases e : H a with
  | none => rw [vw_at e] at h; rw [vw_at e]; exact t _ _ h
  | some x => rw [vw_old e] at h; rw [vw_old e]; exact h
theorem vw_upd {V0 H H' : Hp} {D : Addr} {o u : HO} (h : H D = some o) : Same (Vw V0 H H') (Vw V0 H (upd H' D u)) := fun a y e => by
  cases z : H a with
  | none =>
    rw [vw_at z] at e
    rw [vw_at z, upd_ne (ne_of_none h z).symm]
    exact e
  | some x => rw [vw_old z] at e; rw [vw_old z]; exact e
theorem dm_refl {H : Hp} : Dm H H := fun _ h => h
theorem dm_upr {H H' : Hp} {D : Addr} {u : HO} (d : Dm H H') : Dm H (upd H' D u) := d.trans dm_up
/-- all but one object is as it was -/
def Sx (D : Addr) (H H' : Hp) : Prop := ∀ b o, b ≠ D → H b = some o → H' b = some o
theorem Sx.refl (D : Addr) (H : Hp) : Sx D H H := fun _ _ _ h => h
theorem Sx.trans {D : Addr} {H H1 H2 : Hp} (a : Sx D H H1) (b : Sx D H1 H2) : Sx D H H2 := fun c o n h => b c o n (a c o n h)
theorem Same.sx {D : Addr} {H H' : Hp} (s : Same H H') : Sx D H H' := fun b o _ h => s b o h
theorem sx_upd {D : Addr} {H : Hp} {u : HO} : Sx D H (upd H D u) := fun b o n h => by rw [upd_ne n]; exact h
theorem Sx.same {D : Addr} {V0 H H' : Hp} (x : Sx D H H') (s : Same V0 H) (n : V0 D = none) : Same V0 H' := fun b o h => x b o (ne_of_none h n) (s b o h)
theorem Sx.dm {D : Addr} {H H' : Hp} {u : HO} (x : Sx D H H') (e : H' D = some u) : Dm H H' := fun a h => by
  cases z : H a with
  | none => rfl
  | some o =>
    have hne : a ≠ D := fun q => by rw [q, e] at h; cases h
    rw [x a o hne z] at h
    cases h
theorem vw_sx {V0 H H1 H2 : Hp} {o : Addr} {u : HO} (h : H o = some u) (x : Sx o H1 H2) : Same (Vw V0 H H1) (Vw V0 H H2) := fun a y e => by
  cases z : H a with
  | none =>
    rw [vw_at z] at e
    rw [vw_at z]
    exact x a y (ne_of_none h z).symm e
  | some w => rw [vw_old z] at e; rw [vw_old z]; exact e
/-! ### the rows of a body -/
structure Rw where
  pt : Nat
  st : ST
  fo : Nat
def bck (s : ST) (p f : Nat) : Nat := if s.word = Str.ofString "loop" then p else f
def nxt (r : List ST) (q l : Nat) : Nat := if 0 < r.length then q else l
mutual
def rws1 : ST → Nat → Nat → List Rw
  | .iff c a b, p, f => ⟨p, .iff c a b, f⟩ :: (rwsL a (p + 1) f ++ rwsL b (p + 1 + totL a) f)
  | .loop c a, p, f => ⟨p, .loop c a, f⟩ :: rwsL a (p + 1) p
  | .choose bs, p, f => ⟨p, .choose bs, f⟩ :: rwsLL bs (p + 1) f
  | s, p, f => [⟨p, s, f⟩]
def rwsL : List ST → Nat → Nat → List Rw
  | [], _, _ => []
  | s :: r, p, l => rws1 s p (nxt r (p + tot1 s) l) ++ rwsL r (p + tot1 s) l
def rwsLL : List (List ST) → Nat → Nat → List Rw
  | [], _, _ => []
  | b :: r, p, k => rwsL b p k ++ rwsLL r (p + totL b) k
end
theorem rws_parts (s : ST) (p f : Nat) : rws1 s p f = ⟨p, s, f⟩ :: rwsLL s.parts (p + 1) (bck s p f) := by
  have hi : ¬ Str.ofString "if" = Str.ofString "loop" := by decide +kernel
  have hc : ¬ Str.ofString "choose" = Str.ofString "loop" := by decide +kernel
  cases s with
  | iff c a b =>
    rw [show bck (.iff c a b) p f = f from if_neg hi]
    simp only [rws1, ST.parts, rwsLL, List.append_nil]
  | loop c a =>
    rw [show bck (.loop c a) p f = p from if_pos rfl]
    simp only [rws1, ST.parts, rwsLL, List.append_nil]
  | choose bs =>
    rw [show bck (.choose bs) p f = f from if_neg hc]
    simp only [rws1, ST.parts]
  | _ => rfl
mutual
theorem rws1_len : ∀ (s : ST) (p f : Nat), (rws1 s p f).length = tot1 s
  | .iff c a b, p, f => by
    simp only [rws1, List.length_cons, List.length_append, rwsL_len a, rwsL_len b, tot1]
    omega
  | .loop c a, p, f => by
    simp only [rws1, List.length_cons, rwsL_len a, tot1]
    omega
  | .choose bs, p, f => by
    simp only [rws1, List.length_cons, rwsLL_len bs, tot1]
    omega
  | .skip, _, _ | .set _ _, _, _ | .acq _, _, _ | .rel _, _, _ | .rest _, _, _ | .wake _, _, _ | .start _, _, _ | .chk _, _, _ | .awt _, _, _ | .mark _, _, _ => rfl
theorem rwsL_len : ∀ (ss : List ST) (p l : Nat), (rwsL ss p l).length = totL ss
  | [], _, _ => rfl
  | s :: r, p, l => by
    simp only [rwsL, List.length_append, rws1_len s, rwsL_len r, totL]
theorem rwsLL_len : ∀ (bs : List (List ST)) (p k : Nat), (rwsLL bs p k).length = totLL bs
  | [], _, _ => rfl
  | b :: r, p, k => by
    simp only [rwsLL, List.length_append, rwsL_len b, rwsLL_len r, totLL]
end
def entsLL : List (List ST) → Nat → Nat → List Nat
  | [], _, _ => []
  | b :: r, p, k => (if b.length = 0 then k else p) :: entsLL r (p + totL b) k
theorem entsLL_len : ∀ (bs : List (List ST)) (p k : Nat), (entsLL bs p k).length = bs.length
  | [], _, _ => rfl
  | b :: r, p, k => by simp only [entsLL, List.length_cons, entsLL_len r]
def natD (n : Nat) : PyData := .int (n : Int)
def natV (n : Nat) : V := .int (n : Int)
def Rw.ents (r : Rw) : List Nat := entsLL r.st.parts (r.pt + 1) (bck r.st r.pt r.fo)
def rowD (r : Rw) : PyData := .tuple [natD r.pt, r.st.data, natD r.fo, .list (r.ents.map natD)]
theorem dpa_nats {K : PySem.W.Frag} {H : Hp} : ∀ ns : List Nat, DpAll K H (ns.map natV) (ns.map natD)
  | [] => .nil
  | n :: r => .cons (.int (n : Int)) (dpa_nats r)
theorem dp_nat {K : PySem.W.Frag} {H : Hp} {v : V} {n : Nat} (h : Dp K H v (natD n)) : v = natV n := by cases h; rfl
theorem drop_get {α : Type} {xs : List α} {i : Nat} {x : α} (h : xs[i]? = some x) : xs.drop i = x :: xs.drop (i + 1) := by
  obtain ⟨hi, e⟩ := List.getElem?_eq_some_iff.mp h
  rw [List.drop_eq_getElem_cons hi, e]
theorem tot_mem {s : ST} : ∀ {ss : List ST}, s ∈ ss → tot1 s ≤ totL ss
  | [], h => by cases h
  | x :: r, h => by
    show tot1 s ≤ tot1 x + totL r
    rcases List.mem_cons.mp h with e | e
    · rw [e]; omega
    · have := tot_mem e; omega
theorem totLL_mem {b : List ST} : ∀ {bs : List (List ST)}, b ∈ bs → totL b ≤ totLL bs
  | [], h => by cases h
  | x :: r, h => by
    show totL b ≤ totL x + totLL r
    rcases List.mem_cons.mp h with e | e
    · rw [e]; omega
    · have := totLL_mem e; omega
theorem dps_at {K : PySem.W.Frag} {H : Hp} {xs : List V} {ss : List ST} {i : Nat} {x : V} (ha : DpAll K H xs (datas ss)) (hx : xs[i]? = some x) : ∃ s, ss[i]? = some s ∧ Dp K H x s.data := by
  obtain ⟨d, hdi, dx⟩ := dpa_at ha hx
  rw [datas_map, List.getElem?_map] at hdi
  cases e : ss[i]? with
  | none => rw [e] at hdi; cases hdi
  | some s => rw [e] at hdi; exact ⟨s, rfl, (Option.some.inj hdi) ▸ dx⟩
theorem dpss_at {K : PySem.W.Frag} {H : Hp} {xs : List V} {bs : List (List ST)} {i : Nat} {x : V} (ha : DpAll K H xs (datass bs)) (hx : xs[i]? = some x) : ∃ b, bs[i]? = some b ∧ Dp K H x (.list (datas b)) := by
  obtain ⟨d, hdi, dx⟩ := dpa_at ha hx
  rw [datass_map, List.getElem?_map] at hdi
  cases e : bs[i]? with
  | none => rw [e] at hdi; cases hdi
  | some s =>
    rw [e] at hdi
    have hd : PyData.list (datas s) = d := Option.some.inj hdi
    subst hd
    exact ⟨s, rfl, dx⟩
section
variable {P : Program} {w : World} {K : PySem.W.Frag} {mg : Str → Option Value} {base : Heap}
abbrev s_bodies_of : Stmt := topS 1
theorem sc_bodies_of : FnScope ["statement", "word"] ["statement"] (defScope s_bodies_of) := ⟨rfl, rfl, rfl, by decide +kernel, rfl, by decide +kernel, by decide +kernel⟩
-- bodies_of slots: statement=0 word=1 globals: list
def spBodies (K : PySem.W.Frag) : Sp := fun vs H Q _ => ∃ (V0 : Hp) (v : V) (s : ST), vs = [v] ∧ Same V0 H ∧ Dp K V0 v s.data ∧ ∀ H' a ys, Same H H' → H a = none → H' a = some (.lst ys) → DpAll K V0 ys (datass s.parts) → Q (.ref a) H'
theorem fd_bodies_of {f : Addr} {fd : FuncData} (F : Fun K "bodies_of" "bodies_of" s_bodies_of f fd) (m : mg "bodies_of" = some (.ref f)) (B : Bt mg) : Fd P w K mg base "bodies_of" ["statement"] 1 (spBodies K) := by
  refine ⟨f, fd, F.ok sc_bodies_of (fun vs H Q E h => ?_) (fun cdv A outer s H vs Q E hr h => ?_), m, F.kp, F.binds (ps := ["statement"]) fun _ _ _ _ _ _ us hl => match us, hl with | [_], _ => rfl⟩
  · obtain ⟨V0, v, s, rfl, _⟩ := h
    rfl
  obtain ⟨V0, v, s, rfl, sV, hd, q⟩ := h
  obtain ⟨a, xs, rfl, hs0, ha⟩ := st_dp hd
  have hs := Same.seqT sV hs0
  refine ⟨_, (pss_cons (ps_set (i := 1) sc_bodies_of.nd rfl (Or.inl rfl) (pe_ix (ixT K) (pv 0) pe_int (fun _ _ => rfl)))
 (pss_cons (ps_if (pt_cmpR op_eq (pv 1) pe_str (nomark _))
 (pss_one (ps_ret (pe_lst (pa_cons (pe_ix (ixT K) (pv 0) pe_int (fun _ _ => rfl)) (pa_cons (pe_ix (ixT K) (pv 0) pe_int (fun _ _ => rfl)) pa_nil)))))
 pss_nil)
 (pss_cons (ps_if (pt_cmpR op_eq (pv 1) pe_str (nomark _))
 (pss_one (ps_ret (pe_lst (pa_cons (pe_ix (ixT K) (pv 0) pe_int (fun _ _ => rfl)) pa_nil))))
 pss_nil)
 (pss_cons (ps_if (pt_cmpR op_eq (pv 1) pe_str (nomark _))
 (pss_one (ps_ret (pe_callTy (cList K) (by rfl) B.list (by decide +kernel) (pa_cons (pe_ix (ixT K) (pv 0) pe_int (fun _ _ => rfl)) pa_nil))))
 pss_nil)
 (pss_one (ps_ret (pe_lst pa_nil))))))), ?_⟩
  refine ⟨_, rfl, _, _, _, _, rfl, rfl, hs, atI_nat (j := 0) rfl, ?_⟩
  dsimp only [gName]
  refine ifR (b := _) (fun Q q => ⟨_, rfl, rfl, _, rfl, q⟩) (fun hb => ?_) (fun h1 => ?_)
  · obtain ⟨c, x, y, rfl⟩ := word_if (str_inj (of_decide_eq_true hb))
    obtain ⟨v1, r1, rfl, d1, ha⟩ := dpa_cons ha
    obtain ⟨v2, r2, rfl, d2, ha⟩ := dpa_cons ha
    obtain ⟨v3, r3, rfl, d3, ha⟩ := dpa_cons ha
    exact ⟨_, rfl, _, _, _, _, rfl, rfl, hs, atI_nat (j := 2) rfl, _, rfl, _, _, _, _, rfl, rfl, hs, atI_nat (j := 3) rfl, szc 2, fun p np => q _ p _ (same_new np) np upd_same (.cons d2 (.cons d3 .nil))⟩
  refine ifR (b := _) (fun Q q => ⟨_, rfl, rfl, _, rfl, q⟩) (fun hb => ?_) (fun h2 => ?_)
  · obtain ⟨c, x, rfl⟩ := word_loop (str_inj (of_decide_eq_true hb))
    obtain ⟨v1, r1, rfl, d1, ha⟩ := dpa_cons ha
    obtain ⟨v2, r2, rfl, d2, ha⟩ := dpa_cons ha
    exact ⟨_, rfl, _, _, _, _, rfl, rfl, hs, atI_nat (j := 2) rfl, szc 1, fun p np => q _ p _ (same_new np) np upd_same (.cons d2 .nil)⟩
  refine ifR (b := _) (fun Q q => ⟨_, rfl, rfl, _, rfl, q⟩) (fun hb => ?_) (fun h3 => ?_)
  · obtain ⟨bs, rfl⟩ := word_choose (str_inj (of_decide_eq_true hb))
    obtain ⟨v1, r1, rfl, d1, ha⟩ := dpa_cons ha
    obtain ⟨a1, ys, rfl, hs1, da⟩ := dp_lst d1
    exact ⟨_, rfl, _, _, _, _, rfl, rfl, hs, atI_nat (j := 1) rfl, a1, ys, rfl, .inl (sV.seq hs1), fun p np => q _ p _ (same_new np) np upd_same da⟩
  refine ⟨szc 0, fun p np => q _ p _ (same_new np) np upd_same ?_⟩
  rw [parts_none (dec_ne h1) (dec_ne h2) (dec_ne h3)]
  exact .nil
abbrev s_size_of : Stmt := topS 8
theorem sc_size_of : FnScope ["body", "size", "statement", "inner"] ["body"] (defScope s_size_of) := ⟨rfl, rfl, rfl, by decide +kernel, rfl, by decide +kernel, by decide +kernel⟩
-- size_of slots: body=0 size=1 statement=2 inner=3 globals: len bodies_of size_of
theorem fd_size_of {f : Addr} {fd : FuncData} (F : Fun K "size_of" "size_of" s_size_of f fd) (m : mg "size_of" = some (.ref f)) (B : Bt mg) (D_bodies_of : Fd P w K mg base "bodies_of" ["statement"] 1 (spBodies K)) : ∀ n : Nat, Fd P w K mg base "size_of" ["body"] (n + 1) (spTot K n)
  | 0 => Fd.none F m (F.binds (ps := ["body"]) fun _ _ _ _ _ _ us hl => match us, hl with | [_], _ => rfl) fun vs H Q E h => by
    obtain ⟨v, ss, _, _, h, _⟩ := h
    exact absurd h (Nat.not_lt_zero _)
  | n + 1 => by
    have D_size_of := fd_size_of F m B D_bodies_of n
    refine ⟨f, fd, F.ok sc_size_of (fun vs H Q E h => ?_) (fun cdv A outer s H vs Q E hr h => ?_), m, F.kp, F.binds (ps := ["body"]) fun _ _ _ _ _ _ us hl => match us, hl with | [_], _ => rfl⟩
    · obtain ⟨v, ss, rfl, _⟩ := h
      rfl
    obtain ⟨v, ss, rfl, hd, hn, hsh, q⟩ := h
    obtain ⟨a, xs, rfl, hs, ha⟩ := dp_lst hd
    have hlen := dpa_len ha
    rw [datas_len] at hlen
    have hsl := sht_len hsh
    refine ⟨_, (pss_cons (ps_set (i := 1) sc_size_of.nd rfl (Or.inl rfl) (pe_callB (cLen K) (by rfl) B.len PySem.boot_len (pa_cons (pv 0) pa_nil)))
 (pss_cons (ps_for PassesOwn.never rfl (piL K (pv 0)) (pg_name (i := 2) sc_size_of.nd rfl (Or.inl rfl))
 (pss_one (ps_for PassesOwn.never rfl (piL K (pe_fn D_bodies_of (hr.mono (by omega)) rfl (pa_cons (pv 2) pa_nil))) (pg_name (i := 3) sc_size_of.nd rfl (Or.inl rfl))
 (pss_one (ps_aug (i := 1) sc_size_of.nd rfl (Or.inl rfl) (pe_fn D_size_of hr rfl (pa_cons (pv 3) pa_nil)) ip_add)))))
 (pss_one (ps_ret (pv 1))))), ?_⟩
    refine ⟨_, rfl, _, _, rfl, .inl hs, ?_⟩
    refine ⟨_, rfl, a, rfl, ⟨_, hs⟩, for_list (xs := xs) (fun i σ' H' => ∃ (y2 y3 : Option V) (z : Nat), σ' = [some (.ref a), some (.int (z : Int)), y2, y3] ∧ Same H H' ∧ z + totL (ss.drop i) = totL ss + (ss.drop i).length) ?_ (fun i σ' H' _ p => ?_) ?_ ?_⟩
    · refine ⟨none, none, xs.length, rfl, Same.refl _, ?_⟩
      rw [List.drop_zero, hlen]
      omega
    · obtain ⟨y2, y3, z, rfl, sm, _⟩ := p
      exact sm.seq hs
    · rintro i x σ' H' hx ⟨y2, y3, z, rfl, sm, ez⟩
      obtain ⟨s, hsi, dx⟩ := dps_at ha hx
      have hsm : s ∈ ss := List.mem_of_getElem? hsi
      have hds := dep_mem hsm
      have hpp := sht_parts (sht_mem hsh hsm)
      rw [drop_get hsi] at ez
      have ez2 : z + (tot1 s + totL (ss.drop (i + 1))) = totL ss + ((ss.drop (i + 1)).length + 1) := ez
      dsimp only [gName]
      refine ⟨_, rfl, H', x, s, rfl, Same.refl _, dp_mono sm dx, fun H1 a1 ys s1 n1 e1 d1 => ⟨a1, rfl, ⟨_, sq e1⟩, for_list (xs := ys) (fun j σ2 H2 => ∃ (y3 : Option V) (z2 : Nat), σ2 = [some (.ref a), some (.int (z2 : Int)), some x, y3] ∧ Same H1 H2 ∧ z2 + totLL (s.parts.drop j) = z + totLL s.parts) ?_ (fun i σ' H' _ p => ?_) ?_ ?_⟩⟩
      · exact ⟨y3, z, rfl, Same.refl _, by rw [List.drop_zero]⟩
      · obtain ⟨y3, z2, rfl, sm2, _⟩ := p
        exact sm2.seq (sq e1)
      · rintro j y σ2 H2 hy ⟨y3, z2, rfl, sm2, ez3⟩
        obtain ⟨b, hbj, dy⟩ := dpss_at d1 hy
        have hbm : b ∈ s.parts := List.mem_of_getElem? hbj
        have hdb := dep_parts hbm
        rw [drop_get hbj] at ez3
        have ez4 : z2 + (totL b + totLL (s.parts.drop (j + 1))) = z + totLL s.parts := ez3
        dsimp only [gName]
        refine ⟨_, rfl, _, rfl, y, b, rfl, dp_mono (s1.trans sm2) dy, by omega, hpp.2 b hbm, fun H5 s5 => ⟨_, _, rfl, rfl, _, z2 + totL b, rfl, sm2.trans s5, by omega⟩⟩
      · rintro σ2 H2 ⟨y3, z2, rfl, sm2, ez3⟩
        have hl2 := dpa_len d1
        rw [datass_len] at hl2
        rw [List.drop_of_length_le (by omega)] at ez3
        have e : tot1 s = 1 + totLL s.parts := tot_parts s
        have ez4 : z2 + 0 = z + totLL s.parts := ez3
        refine ⟨_, _, z2, rfl, (sm.trans s1).trans sm2, by omega⟩
    · rintro σ' H' ⟨y2, y3, z, rfl, sm, ez⟩
      rw [List.drop_of_length_le (by omega)] at ez
      have ez2 : z + 0 = totL ss + 0 := ez
      have e : z = totL ss := by omega
      refine ⟨_, rfl, ?_⟩
      rw [e]
      exact q H' sm
end
section
variable {P : Program} {w : World} {K : PySem.W.Frag} {mg : Str → Option Value} {base : Heap}
def spBRows (K : PySem.W.Frag) (n : Nat) : Sp := fun vs H Q _ => ∃ (V0 : Hp) (v : V) (ss : List ST) (p l : Nat), vs = [v, .int (p : Int), .int (l : Int)] ∧ Same V0 H ∧ Dp K V0 v (.list (datas ss)) ∧ depL ss < n ∧ shtL ss ∧ totL ss ≤ 50000 ∧
  ∀ H' a ys, Same H H' → H a = none → H' a = some (.lst ys) → DpAll K (Vw V0 H H') ys ((rwsL ss p l).map rowD) → Q (.ref a) H'
def spSRows (K : PySem.W.Frag) (n : Nat) : Sp := fun vs H Q _ => ∃ (V0 : Hp) (v : V) (s : ST) (p l : Nat), vs = [v, .int (p : Int), .int (l : Int)] ∧ Same V0 H ∧ Dp K V0 v s.data ∧ dep1 s < n ∧ sht1 s ∧ tot1 s ≤ 50000 ∧
  ∀ H' a ys, Same H H' → H a = none → H' a = some (.lst ys) → DpAll K (Vw V0 H H') ys ((rws1 s p l).map rowD) → Q (.ref a) H'
abbrev s_body_rows : Stmt := topS 9
theorem sc_body_rows : FnScope ["body", "first", "last_follower", "rows", "at", "statement", "point", "follower"] ["body", "first", "last_follower"] (defScope s_body_rows) := ⟨rfl, rfl, rfl, by decide +kernel, rfl, by decide +kernel, by decide +kernel⟩
-- body_rows slots: body=0 first=1 last_follower=2 rows=3 at=4 statement=5 point=6 follower=7 globals: enumerate len size_of statement_rows
theorem fd_body_rows {f : Addr} {fd : FuncData} (F : Fun K "body_rows" "body_rows" s_body_rows f fd) (m : mg "body_rows" = some (.ref f)) (B : Bt mg) {n : Nat} (hn12 : n < 12) (D_size_of : Fd P w K mg base "size_of" ["body"] 13 (spTot K 12))
    (D_statement_rows : Fd P w K mg base "statement_rows" ["statement", "point", "follower"] (2 * n + 15) (spSRows K (n + 1))) : Fd P w K mg base "body_rows" ["body", "first", "last_follower"] (2 * (n + 1) + 14) (spBRows K (n + 1)) := by
  refine ⟨f, fd, F.ok sc_body_rows (fun vs H Q E h => ?_) (fun cdv A outer s H vs Q E hr h => ?_), m, F.kp, F.binds (ps := ["body", "first", "last_follower"]) fun _ _ _ _ _ _ us hl => match us, hl with | [_, _, _], _ => rfl⟩
  · obtain ⟨V0, v, ss, p, l, rfl, _⟩ := h
    rfl
  obtain ⟨V0, v, ss, p, l, rfl, sV, hd, hn, hsh, ht, q⟩ := h
  obtain ⟨a, xs, rfl, hs0, ha⟩ := dp_lst hd
  have hlen := dpa_len ha
  rw [datas_len] at hlen
  have hsl := sht_len hsh
  refine ⟨_, (pss_cons (ps_set (i := 3) sc_body_rows.nd rfl (Or.inl rfl) (pe_lst pa_nil))
 (pss_cons (ps_for PassesOwn.never rfl (pi_enum (by rfl) B.enumerate (pa_cons (pv 0) pa_nil)) (pg_tup rfl (pgs_cons (pg_name (i := 4) sc_body_rows.nd rfl (Or.inl rfl)) (pgs_cons (pg_name (i := 5) sc_body_rows.nd rfl (Or.inl rfl)) pgs_nil)))
 (pss_cons (ps_set (i := 6) sc_body_rows.nd rfl (Or.inl rfl) (pe_op op_add (pv 1) (pe_callB (cLen K) (by rfl) B.len PySem.boot_len (pa_cons (pv 3) pa_nil))))
 (pss_cons (ps_set (i := 7) sc_body_rows.nd rfl (Or.inl rfl) (pv 2))
 (C8.pss_cut (ps_if (pt_cmpR op_lt (pv 4) (pe_op op_sub (pe_callB (cLen K) (by rfl) B.len PySem.boot_len (pa_cons (pv 0) pa_nil)) pe_int) (nomark _))
 (pss_one (ps_set (i := 7) sc_body_rows.nd rfl (Or.inl rfl) (pe_op op_add (pv 6) (pe_fn D_size_of (hr.mono (by omega)) rfl (pa_cons (pe_lst (pa_cons (pv 5) pa_nil)) pa_nil)))))
 pss_nil)
 (pss_one (ps_expr (peBm K PySem.F.plainAttrs_list PySem.F.slot_list_extend PySem.F.type_list_extend mt_extend (pv 3) (pa_cons (pe_fn D_statement_rows hr rfl (pa_cons (pv 5) (pa_cons (pv 6) (pa_cons (pv 7) pa_nil)))) pa_nil))))))))
 (pss_one (ps_ret (pv 3))))), ?_⟩
  refine ⟨szc 0, fun D nD => ?_⟩
  have sV0 : Same V0 (upd H D (.lst [])) := sV.trans (same_new nD)
  have vD : V0 D = none := sV.free nD
  have e0 : (upd H D (.lst [])) D = some (.lst []) := upd_same
  dsimp only [gName]
  refine ⟨_, rfl, a, xs, rfl, sV0.seq hs0, for_it (walk_enum (xs := xs)) (fun i σ' H' => ∃ (y4 y5 y6 y7 : Option V) (acc : List Rw) (ys : List V), σ' = [some (.ref a), some (.int (p : Int)), some (.int (l : Int)), some (.ref D), y4, y5, y6, y7] ∧ Same H H' ∧ Dm (upd H D (.lst [])) H' ∧ H' D = some (.lst ys) ∧ DpAll K (Vw V0 (upd H D (.lst [])) H') ys (acc.map rowD) ∧ rwsL ss p l = acc ++ rwsL (ss.drop i) (p + acc.length) l) ?_ (fun i σ' H' _ h => ?_) ?_ ?_⟩
  · exact ⟨none, none, none, none, [], [], rfl, same_new nD, dm_refl, e0, .nil, by rw [List.drop_zero]; rfl⟩
  · obtain ⟨y4, y5, y6, y7, acc, ys, rfl, sm, _⟩ := h
    exact (sV.trans sm).seq hs0
  · rintro i x σ' H' H2 hi ⟨y4, y5, y6, y7, acc, ys, rfl, sm, dm, eD, da, er⟩ ⟨T, x0, x1, rfl, nT, rfl, hx0, hx1⟩
    cases hx0
    obtain ⟨s, hsi, dx⟩ := dps_at ha hx1
    have hsm : s ∈ ss := List.mem_of_getElem? hsi
    have hds := dep_mem hsm
    have htm := tot_mem hsm
    have hsh1 := sht_mem hsh hsm
    have hal : ys.length = acc.length := by
      have := dpa_len da
      rw [List.length_map] at this
      exact this
    have hrl : acc.length + (totL (ss.drop i)) = totL ss := by
      have := congrArg List.length er
      rw [List.length_append, rwsL_len, rwsL_len] at this
      exact this.symm
    rw [drop_get hsi] at er hrl
    have hrl2 : acc.length + (tot1 s + totL (ss.drop (i + 1))) = totL ss := hrl
    have er2 : rwsL ss p l = acc ++ (rws1 s (p + acc.length) (nxt (ss.drop (i + 1)) (p + acc.length + tot1 s) l) ++ rwsL (ss.drop (i + 1)) (p + acc.length + tot1 s) l) := er
    have sT := same_new nT (o := HO.tup [V.int (i : Nat), x1])
    have eDT := sT _ _ eD
    have eT : (upd H' T (.tup [V.int (i : Nat), x1])) T = some (.tup [V.int (i : Nat), x1]) := upd_same
    have smT := sm.trans sT
    have dmT := dm.trans (Same.dm sT)
    have daT := dpAll_mono (vw_to (V0 := V0) (H := upd H D (.lst [])) sT) da
    generalize upd H' T (.tup [V.int (i : Nat), x1]) = H3 at sT eDT eT smT dmT daT ⊢
    refine ⟨T, _, rfl, st eT, rfl, ?_⟩
    dsimp only [gCons, gNil, gName]
    refine ⟨_, _, rfl, _, _, rfl, rfl, ?_⟩
    refine ⟨_, rfl, _, rfl, _, _, rfl, .inl (sq eDT), _, _, rfl, rfl, ?_⟩
    rw [hal]
    dsimp only [gName]
    refine ⟨_, rfl, ?_⟩
    dsimp only [gName]
    refine ⟨fun σ' H' => ∃ fo : Nat, fo = nxt (ss.drop (i + 1)) (p + acc.length + tot1 s) l ∧ σ' = [some (.ref a), some (.int (p : Int)), some (.int (l : Int)), some (.ref D), some (.int (i : Nat)), some x1, some (.int ((p + acc.length : Nat) : Int)), some (.int (fo : Int))] ∧ Same H3 H', ?_, ?_⟩
    · have hdl : (ss.drop (i + 1)).length = ss.length - (i + 1) := List.length_drop
      refine ifS (b := decide ((i : Int) < (xs.length : Int) - 1)) (fun Q q => ⟨_, rfl, _, rfl, _, _, rfl, .inl ((sV.trans smT).seq hs0), _, _, rfl, rfl, _, _, rfl, rfl, _, rfl, q⟩) (fun hb => ?_) (fun hb => ?_)
      · have hlt : (i : Int) < (xs.length : Int) - 1 := of_decide_eq_true hb
        refine ⟨_, rfl, _, rfl, szc 1, fun p1 n1 => ⟨.ref p1, [s], rfl, .lst (sq upd_same) (.cons (dp_mono ((sV.trans smT).trans (same_new n1)) dx) .nil), by show max (dep1 s) 0 < 12; omega, ⟨hsh1, by show 0 < 2000; omega, trivial⟩, fun H4 s4 => ⟨_, _, rfl, rfl, p + acc.length + tot1 s, ?_, rfl, (same_new n1).trans s4⟩⟩⟩
        unfold nxt
        rw [if_pos (by omega)]
      · have hlt : ¬ (i : Int) < (xs.length : Int) - 1 := of_decide_eq_false hb
        refine ⟨l, ?_, rfl, Same.refl _⟩
        unfold nxt
        rw [if_neg (by omega)]
    · rintro σ' H4 ⟨fo, rfl, rfl, s4⟩
      have dm4 := dmT.trans (Same.dm s4)
      refine ⟨_, rfl, .inl ⟨rfl, _, sq (s4 _ _ eDT)⟩, _, rfl, _, rfl, _, rfl, V0, x1, s, p + acc.length, nxt (ss.drop (i + 1)) (p + acc.length + tot1 s) l, rfl, (sV.trans smT).trans s4, dx, by omega, hsh1, by omega, fun H5 a5 y5 s5 n5 e5 d5 => ?_⟩
      have l5 := dpa_len d5
      rw [List.length_map, rws1_len] at l5
      refine ⟨D, a5, ys, y5, rfl, rfl, s5 _ _ (s4 _ _ eDT), e5, sz (by omega), _, _, _, _, acc ++ rws1 s (p + acc.length) (nxt (ss.drop (i + 1)) (p + acc.length + tot1 s) l), ys ++ y5, rfl, Same.mut ((smT.trans s4).trans s5) nD, dm_upr (dm4.trans (Same.dm s5)), upd_same, ?_, ?_⟩
      · rw [List.map_append]
        exact dpAll_mono (vw_upd e0) (dpa_app (dpAll_mono (vw_to (s4.trans s5)) daT) (dpAll_mono (vw_mono sV0 dm4 (Same.refl _)) d5))
      · rw [List.append_assoc, List.length_append, rws1_len, ← Nat.add_assoc]
        exact er2
  · rintro σ' H' ⟨y4, y5, y6, y7, acc, ys, rfl, sm, dm, eD, da, er⟩
    rw [List.drop_of_length_le (by omega)] at er
    have er2 : rwsL ss p l = acc := er.trans (List.append_nil _)
    refine ⟨_, rfl, q H' D ys sm nD eD ?_⟩
    rw [er2]
    exact dpAll_mono (vw_mono sV (Same.dm (same_new nD)) (Same.refl _)) da
end
theorem ifV {c : TT} {ta tb : TE} {σ : L2.St} {H : Hp} {b : Bool} {x : V} {Q : VK} (h : Ans c σ H b) (ht : b = true → Val ta σ H x) (hu : b = false → Val tb σ H x) (q : Q x H) : tIf c ta tb σ H Q := h _ (by
  cases b with
  | true => exact iteT (ht rfl _ q)
  | false => exact iteF (hu rfl _ q))
section
variable {P : Program} {w : World} {K : PySem.W.Frag} {mg : Str → Option Value} {base : Heap}
abbrev s_statement_rows : Stmt := topS 10
theorem sc_statement_rows : FnScope ["statement", "point", "follower", "back", "entries", "inner_rows", "body", "first"] ["statement", "point", "follower"] (defScope s_statement_rows) := ⟨rfl, rfl, rfl, by decide +kernel, rfl, by decide +kernel, by decide +kernel⟩
-- statement_rows slots: statement=0 point=1 follower=2 back=3 entries=4 inner_rows=5 body=6 first=7 globals: bodies_of len body_rows
theorem fd_statement_rows {f : Addr} {fd : FuncData} (F : Fun K "statement_rows" "statement_rows" s_statement_rows f fd) (m : mg "statement_rows" = some (.ref f)) (B : Bt mg) {n : Nat} (D_bodies_of : Fd P w K mg base "bodies_of" ["statement"] 1 (spBodies K))
    (D_body_rows : Fd P w K mg base "body_rows" ["body", "first", "last_follower"] (2 * n + 14) (spBRows K n)) : Fd P w K mg base "statement_rows" ["statement", "point", "follower"] (2 * n + 15) (spSRows K (n + 1)) := by
  refine ⟨f, fd, F.ok sc_statement_rows (fun vs H Q E h => ?_) (fun cdv A outer s H vs Q E hr h => ?_), m, F.kp, F.binds (ps := ["statement", "point", "follower"]) fun _ _ _ _ _ _ us hl => match us, hl with | [_, _, _], _ => rfl⟩
  · obtain ⟨V0, v, s, p, l, rfl, _⟩ := h
    rfl
  obtain ⟨V0, v, s, p, l, rfl, sV, hd, hn, hsh, ht, q⟩ := h
  obtain ⟨a, xs, rfl, hs0, ha⟩ := st_dp hd
  have hpp := sht_parts hsh
  have htp := tot_parts s
  refine ⟨_, (pss_cons (ps_set (i := 3) sc_statement_rows.nd rfl (Or.inl rfl) (pe_ifExp (pt_cmpR op_eq (pe_ix (ixT K) (pv 0) pe_int (fun _ _ => rfl)) pe_str (nomark _)) (pv 1) (pv 2)))
 (pss_cons (ps_set (i := 4) sc_statement_rows.nd rfl (Or.inl rfl) (pe_lst pa_nil))
 (pss_cons (ps_set (i := 5) sc_statement_rows.nd rfl (Or.inl rfl) (pe_lst pa_nil))
 (pss_cons (ps_for PassesOwn.never rfl (piL K (pe_fn D_bodies_of (hr.mono (by omega)) rfl (pa_cons (pv 0) pa_nil))) (pg_name (i := 6) sc_statement_rows.nd rfl (Or.inl rfl))
 (pss_cons (ps_set (i := 7) sc_statement_rows.nd rfl (Or.inl rfl) (pe_op op_add (pe_op op_add (pv 1) pe_int) (pe_callB (cLen K) (by rfl) B.len PySem.boot_len (pa_cons (pv 5) pa_nil))))
 (pss_cons (ps_expr (peBm K PySem.F.plainAttrs_list PySem.F.slot_list_append PySem.F.type_list_append mt_append (pv 4) (pa_cons (pe_ifExp (ptTru K (pv 6) (by intro _; rfl)) (pv 7) (pv 3)) pa_nil)))
 (pss_one (ps_expr (peBm K PySem.F.plainAttrs_list PySem.F.slot_list_extend PySem.F.type_list_extend mt_extend (pv 5) (pa_cons (pe_fn D_body_rows hr rfl (pa_cons (pv 6) (pa_cons (pv 7) (pa_cons (pv 3) pa_nil)))) pa_nil)))))))
 (pss_one (ps_ret (pe_op (opCat K) (pe_lst (pa_cons (pe_tup (pa_cons (pv 1) (pa_cons (pv 0) (pa_cons (pv 2) (pa_cons (pv 4) pa_nil))))) pa_nil)) (pv 5)))))))), ?_⟩
  -- back
  refine ifV (b := _) (x := .int ((bck s p l : Nat) : Int)) (fun Q q => ⟨_, rfl, _, _, _, _, rfl, rfl, Same.seqT sV hs0, atI_nat (j := 0) rfl, rfl, _, rfl, q⟩) (fun hb Q q => ⟨_, rfl, ?_⟩) (fun hb Q q => ⟨_, rfl, ?_⟩) ?_
  · have e : bck s p l = p := if_pos (str_inj (of_decide_eq_true hb))
    rw [e] at q
    exact q
  · have e : bck s p l = l := if_neg (dec_ne hb)
    rw [e] at q
    exact q
  dsimp only [gName]
  refine ⟨szc 0, fun E1 nE => ?_⟩
  have sE := same_new nE (o := HO.lst [])
  have eE0 : (upd H E1 (.lst [])) E1 = some (.lst []) := upd_same
  dsimp only [gName]
  refine ⟨szc 0, fun I1 nI => ?_⟩
  have sI := same_new nI (o := HO.lst [])
  have eE : (upd (upd H E1 (.lst [])) I1 (.lst [])) E1 = some (.lst []) := sI _ _ eE0
  have eI : (upd (upd H E1 (.lst [])) I1 (.lst [])) I1 = some (.lst []) := upd_same
  have nI0 : H I1 = none := sE.free nI
  have hIE : I1 ≠ E1 := fun e => by rw [e, eE0] at nI; cases nI
  have s0 : Same H (upd (upd H E1 (.lst [])) I1 (.lst [])) := sE.trans sI
  dsimp only [gName]
  generalize upd (upd H E1 (.lst [])) I1 (.lst []) = H0 at s0 eE eI ⊢
  clear sI sE eE0 nI
  have vE : V0 E1 = none := sV.free nE
  have vI : V0 I1 = none := sV.free nI0
  refine ⟨_, rfl, V0, _, s, rfl, sV.trans s0, hd, fun H1 A1 zs s1 nA eA dA => ?_⟩
  have hzl := dpa_len dA
  rw [datass_len] at hzl
  have hAE : A1 ≠ E1 := fun e => by rw [e, eE] at nA; cases nA
  have hAI : A1 ≠ I1 := fun e => by rw [e, eI] at nA; cases nA
  refine ⟨A1, rfl, ⟨_, sq eA⟩, for_list (xs := zs) (fun i σ' H' => ∃ (y6 y7 : Option V) (es : List Nat) (acc : List Rw) (ys : List V), σ' = [some (.ref a), some (.int (p : Int)), some (.int (l : Int)), some (.int ((bck s p l : Nat) : Int)), some (.ref E1), some (.ref I1), y6, y7] ∧ Same H H' ∧ Dm H0 H' ∧ H' A1 = some (.lst zs) ∧ H' E1 = some (.lst (es.map natV)) ∧ H' I1 = some (.lst ys) ∧ DpAll K (Vw V0 H0 H') ys (acc.map rowD) ∧
    entsLL s.parts (p + 1) (bck s p l) = es ++ entsLL (s.parts.drop i) (p + 1 + acc.length) (bck s p l) ∧ rwsLL s.parts (p + 1) (bck s p l) = acc ++ rwsLL (s.parts.drop i) (p + 1 + acc.length) (bck s p l)) ?_ (fun i σ' H' _ h => ?_) ?_ ?_⟩
  · exact ⟨none, none, [], [], [], rfl, s0.trans s1, Same.dm s1, eA, s1 _ _ eE, s1 _ _ eI, .nil, by rw [List.drop_zero]; rfl, by rw [List.drop_zero]; rfl⟩
  · obtain ⟨y6, y7, es, acc, ys, rfl, sm, dm, eA', _⟩ := h
    exact sq eA'
  · rintro i x σ' H' hx ⟨y6, y7, es, acc, ys, rfl, sm, dm, eA', eE', eI', da, ee, er⟩
    obtain ⟨b, hbi, dx⟩ := dpss_at dA hx
    have hbm : b ∈ s.parts := List.mem_of_getElem? hbi
    have hdb := dep_parts hbm
    have htm := totLL_mem hbm
    obtain ⟨ab, xb, rfl, hsb, hab⟩ := dp_lst dx
    have hxl := dpa_len hab
    rw [datas_len] at hxl
    have hal : ys.length = acc.length := by
      have := dpa_len da
      rw [List.length_map] at this
      exact this
    have hrl : acc.length + totLL (s.parts.drop i) = totLL s.parts := by
      have := congrArg List.length er
      rw [List.length_append, rwsLL_len, rwsLL_len] at this
      exact this.symm
    have hel : es.length + (s.parts.drop i).length = s.parts.length := by
      have := congrArg List.length ee
      rw [List.length_append, entsLL_len, entsLL_len] at this
      exact this.symm
    rw [drop_get hbi] at ee er hrl
    have hrl2 : acc.length + (totL b + totLL (s.parts.drop (i + 1))) = totLL s.parts := hrl
    have ee2 : entsLL s.parts (p + 1) (bck s p l) = es ++ ((if b.length = 0 then bck s p l else p + 1 + acc.length) :: entsLL (s.parts.drop (i + 1)) (p + 1 + acc.length + totL b) (bck s p l)) := ee
    have er2 : rwsLL s.parts (p + 1) (bck s p l) = acc ++ (rwsL b (p + 1 + acc.length) (bck s p l) ++ rwsLL (s.parts.drop (i + 1)) (p + 1 + acc.length + totL b) (bck s p l)) := er
    dsimp only [gName]
    refine ⟨_, rfl, _, _, rfl, rfl, _, rfl, _, _, rfl, .inl (sq eI'), _, _, rfl, rfl, ?_⟩
    rw [hal]
    dsimp only [gName]
    have hen : es.length < sizeLine := szl (by have := hpp.1; omega)
    refine ⟨_, rfl, .inl ⟨rfl, _, sq eE'⟩, ifV (b := !xb.isEmpty) (x := natV (if b.length = 0 then bck s p l else p + 1 + acc.length)) (fun Q q => ⟨_, rfl, _, .inl ⟨xb, (sV.trans sm).seq hsb, rfl⟩, q⟩) (fun hb Q q => ⟨_, rfl, ?_⟩) (fun hb Q q => ⟨_, rfl, ?_⟩) ⟨E1, _, _, rfl, rfl, eE', by rw [List.length_map]; exact hen, ?_⟩⟩
    · rw [if_neg (by cases xb with | nil => cases hb | cons z r => rw [← hxl]; exact Nat.succ_ne_zero _)] at q
      exact q
    · rw [if_pos (by cases xb with | nil => rw [← hxl]; rfl | cons z r => cases hb)] at q
      exact q
    generalize hen' : (if b.length = 0 then bck s p l else p + 1 + acc.length) = en at ee2 ⊢
    have sm2 := Same.mut (o := HO.lst (es.map natV ++ [natV en])) sm nE
    have sV2 := Same.mut (o := HO.lst (es.map natV ++ [natV en])) (sV.trans sm) vE
    have dm2 := dm_upr (D := E1) (u := HO.lst (es.map natV ++ [natV en])) dm
    have eA2 : (upd H' E1 (.lst (es.map natV ++ [natV en]))) A1 = some (.lst zs) := by rw [upd_ne hAE]; exact eA'
    have eE2 : (upd H' E1 (.lst (es.map natV ++ [natV en]))) E1 = some (.lst (es.map natV ++ [natV en])) := upd_same
    have eI2 : (upd H' E1 (.lst (es.map natV ++ [natV en]))) I1 = some (.lst ys) := by rw [upd_ne hIE]; exact eI'
    have da2 := dpAll_mono (vw_upd (V0 := V0) (H' := H') (u := HO.lst (es.map natV ++ [natV en])) eE) da
    generalize upd H' E1 (.lst (es.map natV ++ [natV en])) = H2 at sm2 sV2 dm2 eA2 eE2 eI2 da2 ⊢
    refine ⟨_, rfl, .inl ⟨rfl, _, sq eI2⟩, _, rfl, _, rfl, _, rfl, V0, _, b, p + 1 + acc.length, bck s p l, rfl, sV2, dx, by omega, hpp.2 b hbm, by omega, fun H5 a5 y5 s5 n5 e5 d5 => ?_⟩
    have l5 := dpa_len d5
    rw [List.length_map, rwsL_len] at l5
    refine ⟨I1, a5, ys, y5, rfl, rfl, s5 _ _ eI2, e5, sz (by omega), _, _, es ++ [en], acc ++ rwsL b (p + 1 + acc.length) (bck s p l), ys ++ y5, rfl, Same.mut (sm2.trans s5) nI0, dm_upr (dm2.trans (Same.dm s5)), ?_, ?_, upd_same, ?_, ?_, ?_⟩
    · rw [upd_ne hAI]
      exact s5 _ _ eA2
    · rw [upd_ne hIE.symm, List.map_append]
      exact s5 _ _ eE2
    · rw [List.map_append]
      exact dpAll_mono (vw_upd eI) (dpa_app (dpAll_mono (vw_to s5) da2) (dpAll_mono (vw_mono (sV.trans s0) dm2 (Same.refl _)) d5))
    · rw [List.append_assoc, List.length_append, rwsL_len, ← Nat.add_assoc]
      exact ee2
    · rw [List.append_assoc, List.length_append, rwsL_len, ← Nat.add_assoc]
      exact er2
  · rintro σ' H' ⟨y6, y7, es, acc, ys, rfl, sm, dm, eA', eE', eI', da, ee, er⟩
    rw [List.drop_of_length_le (by omega)] at ee er
    have ee2 : entsLL s.parts (p + 1) (bck s p l) = es := ee.trans (List.append_nil _)
    have er2 : rwsLL s.parts (p + 1) (bck s p l) = acc := er.trans (List.append_nil _)
    have hal : ys.length = acc.length := by
      have := dpa_len da
      rw [List.length_map] at this
      exact this
    have hrl : acc.length = totLL s.parts := by rw [← er2, rwsLL_len]
    refine ⟨_, rfl, _, rfl, _, rfl, _, rfl, szc 4, fun T nT => ⟨szc 1, fun L1 nL => ?_⟩⟩
    have sT := same_new nT (o := HO.tup [V.int (p : Int), V.ref a, V.int (l : Int), V.ref E1])
    have eT : (upd H' T (.tup [V.int (p : Int), V.ref a, V.int (l : Int), V.ref E1])) T = some (.tup [V.int (p : Int), V.ref a, V.int (l : Int), V.ref E1]) := upd_same
    have nT2 := sm.free nT
    generalize upd H' T (.tup [V.int (p : Int), V.ref a, V.int (l : Int), V.ref E1]) = H2 at sT eT nL ⊢
    have sL := same_new nL (o := HO.lst [V.ref T])
    refine ⟨_, rfl, L1, I1, [V.ref T], ys, rfl, rfl, sq upd_same, sq (sL _ _ (sT _ _ eI')), sz (by show 1 + ys.length ≤ 100000; omega), fun R nR => ?_⟩
    have sR := same_new nR (o := HO.lst ([V.ref T] ++ ys))
    have nR2 := (sm.trans (sT.trans sL)).free nR
    have sAll := (sT.trans sL).trans sR
    refine q _ R _ (sm.trans sAll) nR2 upd_same ?_
    rw [rws_parts, List.map_cons, er2]
    refine .cons (.tup (xs := [V.int (p : Int), V.ref a, V.int (l : Int), V.ref E1]) (st ?_) (.cons (.int _) (.cons (dp_mono (vw_base (sV.trans (sm.trans sAll))) hd) (.cons (.int _) (.cons ?_ .nil))))) (dpAll_mono ((vw_to (V0 := V0) (H := H0) sAll).trans (vw_mono sV (Same.dm s0) (Same.refl _))) da)
    · rw [vw_at nT2]
      exact (sL.trans sR) _ _ eT
    · refine .lst (xs := es.map natV) (sq ?_) ?_
      · rw [vw_at nE]
        exact sAll _ _ eE'
      · show DpAll K _ (es.map natV) ((Rw.ents ⟨p, s, l⟩).map natD)
        rw [show Rw.ents ⟨p, s, l⟩ = es from ee2]
        exact dpa_nats es
end
section
variable {P : Program} {w : World} {K : PySem.W.Frag} {mg : Str → Option Value} {base : Heap}
theorem all_rows {fb fs : Addr} {fdb fds : FuncData} (FB : Fun K "body_rows" "body_rows" s_body_rows fb fdb) (mb : mg "body_rows" = some (.ref fb)) (FS : Fun K "statement_rows" "statement_rows" s_statement_rows fs fds) (ms : mg "statement_rows" = some (.ref fs)) (B : Bt mg)
    (D_bodies_of : Fd P w K mg base "bodies_of" ["statement"] 1 (spBodies K)) (D_size_of : Fd P w K mg base "size_of" ["body"] 13 (spTot K 12)) : ∀ n : Nat, n ≤ 12 → Fd P w K mg base "body_rows" ["body", "first", "last_follower"] (2 * n + 14) (spBRows K n)
  | 0, _ => Fd.none FB mb (FB.binds (ps := ["body", "first", "last_follower"]) fun _ _ _ _ _ _ us hl => match us, hl with | [_, _, _], _ => rfl) fun vs H Q E h => by
    obtain ⟨V0, v, ss, p, l, _, _, _, h, _⟩ := h
    exact absurd h (Nat.not_lt_zero _)
  | n + 1, hn => fd_body_rows FB mb B (by omega) D_size_of (fd_statement_rows FS ms B D_bodies_of (all_rows FB mb FS ms B D_bodies_of D_size_of n (by omega)))
def KT.rows (k : KT) : List Rw := rwsL k.body 0 (totL k.body)
/-- a kind that is not large -/
def KT.Fit (k : KT) : Prop := depL k.body < 12 ∧ shtL k.body ∧ totL k.body ≤ 50000
def spKRows (K : PySem.W.Frag) : Sp := fun vs H Q _ => ∃ (V0 : Hp) (v : V) (k : KT), vs = [v] ∧ Same V0 H ∧ Dp K V0 v k.data ∧ k.Fit ∧ ∀ H' a ys, Same H H' → H a = none → H' a = some (.lst ys) → DpAll K (Vw V0 H H') ys (k.rows.map rowD) → Q (.ref a) H'
abbrev s_kind_rows : Stmt := topS 7
theorem sc_kind_rows : FnScope ["kind", "body"] ["kind"] (defScope s_kind_rows) := ⟨rfl, rfl, rfl, by decide +kernel, rfl, by decide +kernel, by decide +kernel⟩
-- kind_rows slots: kind=0 body=1 globals: body_rows size_of
theorem fd_kind_rows {f : Addr} {fd : FuncData} (F : Fun K "kind_rows" "kind_rows" s_kind_rows f fd) (m : mg "kind_rows" = some (.ref f)) (B : Bt mg) (D_size_of : Fd P w K mg base "size_of" ["body"] 13 (spTot K 12)) (D_body_rows : Fd P w K mg base "body_rows" ["body", "first", "last_follower"] 38 (spBRows K 12)) : Fd P w K mg base "kind_rows" ["kind"] 39 (spKRows K) := by
  refine ⟨f, fd, F.ok sc_kind_rows (fun vs H Q E h => ?_) (fun cdv A outer s H vs Q E hr h => ?_), m, F.kp, F.binds (ps := ["kind"]) fun _ _ _ _ _ _ us hl => match us, hl with | [_], _ => rfl⟩
  · obtain ⟨V0, v, k, rfl, _⟩ := h
    rfl
  obtain ⟨V0, v, k, rfl, sV, hd, ⟨f1, f2, f3⟩, q⟩ := h
  obtain ⟨a, b, c, cv, xs, ys, rfl, hs, _, _, _, hb, hyb⟩ := kt_dp hd
  refine ⟨_, (pss_cons (ps_set (i := 1) sc_kind_rows.nd rfl (Or.inl rfl) (pe_ix (ixT K) (pv 0) pe_int (fun _ _ => rfl)))
 (pss_one (ps_ret (pe_fn D_body_rows hr rfl (pa_cons (pv 1) (pa_cons pe_int (pa_cons (pe_fn D_size_of (hr.mono (by omega)) rfl (pa_cons (pv 1) pa_nil)) pa_nil))))))), ?_⟩
  refine ⟨_, rfl, _, _, _, _, rfl, rfl, Same.seqT sV hs, atI_nat (j := 3) rfl, ?_⟩
  dsimp only [gName]
  refine ⟨_, rfl, _, rfl, .ref c, k.body, rfl, .lst (sV.seq hb) (dpAll_mono sV hyb), f1, f2, fun H1 s1 => ⟨V0, .ref c, k.body, 0, totL k.body, rfl, sV.trans s1, .lst hb hyb, f1, f2, f3, fun H2 A zs s2 nA eA dz => q H2 A zs (s1.trans s2) (s1.free nA) eA (dpAll_mono (vw_mono sV (Same.dm s1) (Same.refl _)) dz)⟩⟩
def rstsR : Nat → List Rw → List (Str × Nat × Nat)
  | _, [] => []
  | q, ⟨_, .rest b, f⟩ :: t => (b, q, f) :: rstsR (q + 1) t
  | q, _ :: t => rstsR q t
theorem rstsR_rest {q p f : Nat} {b : Str} {t : List Rw} : rstsR q (⟨p, .rest b, f⟩ :: t) = (b, q, f) :: rstsR (q + 1) t := rfl
theorem rstsR_else {q : Nat} {r : Rw} {t : List Rw} (h : r.st.word ≠ Str.ofString "rest") : rstsR q (r :: t) = rstsR q t := by
  obtain ⟨p, s, f⟩ := r
  cases s <;> first | rfl | exact absurd rfl h
theorem rstsR_len : ∀ (rs : List Rw) (q : Nat), (rstsR q rs).length ≤ rs.length
  | [], _ => Nat.le_refl _
  | ⟨p, s, f⟩ :: t, q => by
    by_cases h : s.word = Str.ofString "rest"
    · obtain ⟨b, rfl⟩ := word_rest h
      rw [rstsR_rest, List.length_cons, List.length_cons]
      have := rstsR_len t (q + 1)
      omega
    · rw [rstsR_else (r := ⟨p, s, f⟩) h, List.length_cons]
      have := rstsR_len t q
      omega
def restD (x : Str × Nat × Nat) : PyData := .tuple [.str x.1, natD x.2.1, natD x.2.2]
def KT.rests (k : KT) : List (Str × Nat × Nat) := rstsR (totL k.body + 1) k.rows
def spPoints (K : PySem.W.Frag) : Sp := fun vs H Q _ => ∃ (V0 : Hp) (v : V) (k : KT), vs = [v] ∧ Same V0 H ∧ Dp K V0 v k.data ∧ k.Fit ∧
  ∀ H' t r xs, Same H H' → H t = none → H r = none → t ≠ r → H' t = some (.tup [natV (totL k.body + 1 + k.rests.length + 1), natV (totL k.body), natV (totL k.body + 1 + k.rests.length), .ref r]) → H' r = some (.lst xs) → DpAll K (Vw V0 (upd H r (.lst [])) H') xs (k.rests.map restD) → Q (.ref t) H'
theorem rows_at {K : PySem.W.Frag} {H : Hp} {xs : List V} {rs : List Rw} {i : Nat} {x : V} (ha : DpAll K H xs (rs.map rowD)) (hx : xs[i]? = some x) : ∃ r, rs[i]? = some r ∧ ∃ a sv ev, x = .ref a ∧ SqT K H a [natV r.pt, sv, natV r.fo, ev] ∧ Dp K H sv r.st.data ∧ Dp K H ev (.list (r.ents.map natD)) := by
  obtain ⟨d, hdi, dx⟩ := dpa_at ha hx
  rw [List.getElem?_map] at hdi
  cases e : rs[i]? with
  | none => rw [e] at hdi; cases hdi
  | some r =>
    rw [e] at hdi
    have hd : rowD r = d := Option.some.inj hdi
    subst hd
    obtain ⟨a, xs, rfl, hs, h1⟩ := dp_tup dx
    obtain ⟨v1, r1, rfl, d1, h1⟩ := dpa_cons h1
    obtain ⟨v2, r2, rfl, d2, h1⟩ := dpa_cons h1
    obtain ⟨v3, r3, rfl, d3, h1⟩ := dpa_cons h1
    obtain ⟨v4, r4, rfl, d4, h1⟩ := dpa_cons h1
    obtain rfl := dpa_nil h1
    rw [dp_nat d1, dp_nat d3] at hs
    exact ⟨r, rfl, a, v2, v4, rfl, hs, d2, d4⟩
theorem dm_upd2 {H H1 : Hp} {D : Addr} {o u : HO} (s : Same H H1) : Dm (upd H D o) (upd H1 D u) := fun a h => by
  by_cases e : a = D
  · rw [e, upd_same] at h; cases h
  · rw [upd_ne e] at h ⊢
    exact s.free h
end
def lrowD (r : Rw) : PyData := .tuple [natD r.pt, r.st.data, natD r.fo]
section
variable {P : Program} {w : World} {K : PySem.W.Frag} {mg : Str → Option Value} {base : Heap}
def spPartsV (K : PySem.W.Frag) : Sp := fun vs H Q _ => ∃ (V0 : Hp) (v : V) (s : ST), vs = [v] ∧ Same V0 H ∧ Dp K V0 v s.data ∧ ∀ H' a ys, Same H H' → SqL K (Vw V0 H H') a ys → DpAll K V0 ys (datass s.parts) → Q (.ref a) H'
theorem fd_law_partsV {f : Addr} {fd : FuncData} (F : Fun K "_law_parts" "_law_parts" s_law_parts f fd) (m : mg "_law_parts" = some (.ref f)) : Fd P w K mg base "_law_parts" ["statement"] 1 (spPartsV K) := by
  refine ⟨f, fd, F.ok sc_law_parts (fun vs H Q E h => ?_) (fun cdv A outer s H vs Q E hr h => ?_), m, F.kp, F.binds (ps := ["statement"]) fun _ _ _ _ _ _ us hl => match us, hl with | [_], _ => rfl⟩
  · obtain ⟨V0, v, s, rfl, _⟩ := h
    rfl
  obtain ⟨V0, v, s, rfl, sV, hd, q⟩ := h
  obtain ⟨a, xs, rfl, hs0, ha⟩ := st_dp hd
  have hs := Same.seqT sV hs0
  refine ⟨_, (pss_cons (ps_if (pt_cmpR op_eq (pe_ix (ixT K) (pv 0) pe_int (fun _ _ => rfl)) pe_str (nomark _))
 (pss_one (ps_ret (pe_lst (pa_cons (pe_ix (ixT K) (pv 0) pe_int (fun _ _ => rfl)) (pa_cons (pe_ix (ixT K) (pv 0) pe_int (fun _ _ => rfl)) pa_nil)))))
 pss_nil)
 (pss_cons (ps_if (pt_cmpR op_eq (pe_ix (ixT K) (pv 0) pe_int (fun _ _ => rfl)) pe_str (nomark _))
 (pss_one (ps_ret (pe_lst (pa_cons (pe_ix (ixT K) (pv 0) pe_int (fun _ _ => rfl)) pa_nil))))
 pss_nil)
 (pss_cons (ps_if (pt_cmpR op_eq (pe_ix (ixT K) (pv 0) pe_int (fun _ _ => rfl)) pe_str (nomark _))
 (pss_one (ps_ret (pe_ix (ixT K) (pv 0) pe_int (fun _ _ => rfl))))
 pss_nil)
 (pss_one (ps_ret (pe_lst pa_nil)))))), ?_⟩
  refine ifR (b := _) (fun Q q => ⟨_, rfl, _, _, _, _, rfl, rfl, hs, atI_nat (j := 0) rfl, rfl, _, rfl, q⟩) (fun hb => ?_) (fun h1 => ?_)
  · obtain ⟨c, x, y, rfl⟩ := word_if (str_inj (of_decide_eq_true hb))
    obtain ⟨v1, r1, rfl, d1, ha⟩ := dpa_cons ha
    obtain ⟨v2, r2, rfl, d2, ha⟩ := dpa_cons ha
    obtain ⟨v3, r3, rfl, d3, ha⟩ := dpa_cons ha
    exact ⟨_, rfl, _, _, _, _, rfl, rfl, hs, atI_nat (j := 2) rfl, _, rfl, _, _, _, _, rfl, rfl, hs, atI_nat (j := 3) rfl, szc 2, fun p np => q _ p _ (same_new np) (sq ((vw_at np).trans upd_same)) (.cons d2 (.cons d3 .nil))⟩
  refine ifR (b := _) (fun Q q => ⟨_, rfl, _, _, _, _, rfl, rfl, hs, atI_nat (j := 0) rfl, rfl, _, rfl, q⟩) (fun hb => ?_) (fun h2 => ?_)
  · obtain ⟨c, x, rfl⟩ := word_loop (str_inj (of_decide_eq_true hb))
    obtain ⟨v1, r1, rfl, d1, ha⟩ := dpa_cons ha
    obtain ⟨v2, r2, rfl, d2, ha⟩ := dpa_cons ha
    exact ⟨_, rfl, _, _, _, _, rfl, rfl, hs, atI_nat (j := 2) rfl, szc 1, fun p np => q _ p _ (same_new np) (sq ((vw_at np).trans upd_same)) (.cons d2 .nil)⟩
  refine ifR (b := _) (fun Q q => ⟨_, rfl, _, _, _, _, rfl, rfl, hs, atI_nat (j := 0) rfl, rfl, _, rfl, q⟩) (fun hb => ?_) (fun h3 => ?_)
  · obtain ⟨bs, rfl⟩ := word_choose (str_inj (of_decide_eq_true hb))
    obtain ⟨v1, r1, rfl, d1, ha⟩ := dpa_cons ha
    obtain ⟨a1, ys, rfl, hs1, da⟩ := dp_lst d1
    exact ⟨_, rfl, _, _, _, _, rfl, rfl, hs, atI_nat (j := 1) rfl, q _ a1 ys (Same.refl _) ((vw_base sV).seq hs1) da⟩
  refine ⟨szc 0, fun p np => q _ p _ (same_new np) (sq ((vw_at np).trans upd_same)) ?_⟩
  rw [parts_none (dec_ne h1) (dec_ne h2) (dec_ne h3)]
  exact .nil
def spSpread (K : PySem.W.Frag) (n : Nat) : Sp := fun vs H Q _ => ∃ (V0 : Hp) (v : V) (ss : List ST) (p l : Nat) (o : Addr) (xs : List V), vs = [v, .int (p : Int), .int (l : Int), .ref o] ∧ Same V0 H ∧ V0 o = none ∧ Dp K V0 v (.list (datas ss)) ∧ H o = some (.lst xs) ∧ depL ss < n ∧ shtL ss ∧ xs.length + totL ss ≤ 50000 ∧
  ∀ H' ys, Sx o H H' → H' o = some (.lst (xs ++ ys)) → DpAll K (Vw V0 H H') ys ((rwsL ss p l).map lrowD) → Q .non H'
abbrev s_law_spread : Stmt := topS 31
theorem sc_law_spread : FnScope ["body", "at", "after", "out", "k", "size", "follower", "inner", "part", "back"] ["body", "at", "after", "out"] (defScope s_law_spread) := ⟨rfl, rfl, rfl, by decide +kernel, rfl, by decide +kernel, by decide +kernel⟩
-- _law_spread slots: body=0 at=1 after=2 out=3 k=4 size=5 follower=6 inner=7 part=8 back=9 globals: range len _law_total _law_parts _law_spread
theorem fd_law_spread {f : Addr} {fd : FuncData} (F : Fun K "_law_spread" "_law_spread" s_law_spread f fd) (m : mg "_law_spread" = some (.ref f)) (B : Bt mg) (D_law_parts : Fd P w K mg base "_law_parts" ["statement"] 1 (spPartsV K)) (D_law_total : Fd P w K mg base "_law_total" ["body"] 13 (spTot K 12)) : ∀ n : Nat, n ≤ 12 → Fd P w K mg base "_law_spread" ["body", "at", "after", "out"] (n + 14) (spSpread K n)
  | 0, _ => Fd.none F m (F.binds (ps := ["body", "at", "after", "out"]) fun _ _ _ _ _ _ us hl => match us, hl with | [_, _, _, _], _ => rfl) fun vs H Q E h => by
    obtain ⟨V0, v, ss, p, l, o, xs, _, _, _, _, _, h, _⟩ := h
    exact absurd h (Nat.not_lt_zero _)
  | n + 1, hn12 => by
    have D_law_spread := fd_law_spread F m B D_law_parts D_law_total n (by omega)
    refine ⟨f, fd, F.ok sc_law_spread (fun vs H Q E h => ?_) (fun cdv A outer s H vs Q E hr h => ?_), m, F.kp, F.binds (ps := ["body", "at", "after", "out"]) fun _ _ _ _ _ _ us hl => match us, hl with | [_, _, _, _], _ => rfl⟩
    · obtain ⟨V0, v, ss, p, l, o, xs, rfl, _⟩ := h
      rfl
    obtain ⟨V0, v, ss, p, l, o, xs, rfl, sV, vo, hd, eo, hn, hsh, ht, q⟩ := h
    obtain ⟨a, vs, rfl, hs0, ha⟩ := dp_lst hd
    have hlen := dpa_len ha
    rw [datas_len] at hlen
    have hsl := sht_len hsh
    refine ⟨_, (pss_one (ps_for PassesOwn.never rfl (pi_range1 rfl B.range (pa_cons (pe_callB (cLen K) (by rfl) B.len PySem.boot_len (pa_cons (pv 0) pa_nil)) pa_nil)) (pg_name (i := 4) sc_law_spread.nd rfl (Or.inl rfl))
 (pss_cons (ps_set (i := 5) sc_law_spread.nd rfl (Or.inl rfl) (pe_fn D_law_total (hr.mono (by omega)) rfl (pa_cons (pe_lst (pa_cons (pe_ix (ixL K) (pv 0) (pv 4) (fun _ _ => rfl)) pa_nil)) pa_nil)))
 (pss_cons (ps_set (i := 6) sc_law_spread.nd rfl (Or.inl rfl) (pv 2))
 (C8.pss_cut (ps_if (pt_cmpR op_lt (pe_op op_add (pv 4) pe_int) (pe_callB (cLen K) (by rfl) B.len PySem.boot_len (pa_cons (pv 0) pa_nil)) (nomark _))
 (pss_one (ps_set (i := 6) sc_law_spread.nd rfl (Or.inl rfl) (pe_op op_add (pv 1) (pv 5))))
 pss_nil)
 (pss_cons (ps_expr (peBm K PySem.F.plainAttrs_list PySem.F.slot_list_append PySem.F.type_list_append mt_append (pv 3) (pa_cons (pe_tup (pa_cons (pv 1) (pa_cons (pe_ix (ixL K) (pv 0) (pv 4) (fun _ _ => rfl)) (pa_cons (pv 6) pa_nil)))) pa_nil)))
 (pss_cons (ps_set (i := 7) sc_law_spread.nd rfl (Or.inl rfl) (pe_op op_add (pv 1) pe_int))
 (pss_cons (ps_for PassesOwn.never rfl (piL K (pe_fn D_law_parts (hr.mono (by omega)) rfl (pa_cons (pe_ix (ixL K) (pv 0) (pv 4) (fun _ _ => rfl)) pa_nil))) (pg_name (i := 8) sc_law_spread.nd rfl (Or.inl rfl))
 (pss_cons (ps_set (i := 9) sc_law_spread.nd rfl (Or.inl rfl) (pv 6))
 (C8.pss_cut (ps_if (pt_cmpR op_eq (pe_ix (ixT K) (pe_ix (ixL K) (pv 0) (pv 4) (fun _ _ => rfl)) pe_int (fun _ _ => rfl)) pe_str (nomark _))
 (pss_one (ps_set (i := 9) sc_law_spread.nd rfl (Or.inl rfl) (pv 1)))
 pss_nil)
 (pss_cons (ps_expr (pe_fn D_law_spread hr rfl (pa_cons (pv 8) (pa_cons (pv 7) (pa_cons (pv 9) (pa_cons (pv 3) pa_nil))))))
 (pss_one (ps_set (i := 7) sc_law_spread.nd rfl (Or.inl rfl) (pe_op op_add (pv 7) (pe_fn D_law_total (hr.mono (by omega)) rfl (pa_cons (pv 8) pa_nil)))))))))
 (pss_one (ps_set (i := 1) sc_law_spread.nd rfl (Or.inl rfl) (pe_op op_add (pv 1) (pv 5)))))))))))), ?_⟩
    refine ⟨_, rfl, _, _, rfl, .inl (sV.seq hs0), ?_⟩
    have hvl := sz (show vs.length ≤ 100000 by omega)
    refine ⟨_, rfl, by omega, by omega, for_range (lo := 0) (n := vs.length) (fun i σ' H' => ∃ (y4 y5 y6 y7 y8 y9 : Option V) (acc : List Rw) (ys : List V), σ' = [some (.ref a), some (.int ((p + acc.length : Nat) : Int)), some (.int (l : Int)), some (.ref o), y4, y5, y6, y7, y8, y9] ∧ Sx o H H' ∧ H' o = some (.lst (xs ++ ys)) ∧ DpAll K (Vw V0 H H') ys (acc.map lrowD) ∧ rwsL ss p l = acc ++ rwsL (ss.drop i) (p + acc.length) l) ?_ ?_ ?_⟩
    · exact ⟨none, none, none, none, none, none, [], [], rfl, Sx.refl _ _, by rw [List.append_nil]; exact eo, .nil, by rw [List.drop_zero]; rfl⟩
    · rintro i σ' H' hi ⟨y4, y5, y6, y7, y8, y9, acc, ys, rfl, sx, eo', da, er⟩
      have hx1 : vs[i]? = some vs[i] := List.getElem?_eq_getElem hi
      generalize vs[i] = x1 at hx1
      obtain ⟨s, hsi, dx⟩ := dps_at ha hx1
      have hsm : s ∈ ss := List.mem_of_getElem? hsi
      have hds := dep_mem hsm
      have hsh1 := sht_mem hsh hsm
      have hpp := sht_parts hsh1
      have htp := tot_parts s
      obtain ⟨ta, ws, rfl, hts, _⟩ := st_dp dx
      have hat : atI vs (0 + (i : Int)) = some (.ref ta) := at_of (j := i) (by omega) hx1
      have hal : ys.length = acc.length := by
        have := dpa_len da
        rw [List.length_map] at this
        exact this
      have hrl : acc.length + (totL (ss.drop i)) = totL ss := by
        have := congrArg List.length er
        rw [List.length_append, rwsL_len, rwsL_len] at this
        exact this.symm
      rw [drop_get hsi] at er hrl
      have hrl2 : acc.length + (tot1 s + totL (ss.drop (i + 1))) = totL ss := hrl
      generalize hq : p + acc.length = q0 at *
      have er2 : rwsL ss p l = acc ++ (rws1 s q0 (nxt (ss.drop (i + 1)) (q0 + tot1 s) l) ++ rwsL (ss.drop (i + 1)) (q0 + tot1 s) l) := er
      have sV' := sx.same sV vo
      dsimp only [gName]
      refine ⟨_, rfl, _, rfl, _, _, _, _, rfl, rfl, sV'.seq hs0, hat, szc 1, fun p1 n1 => ⟨.ref p1, [s], rfl, .lst (sq upd_same) (.cons (dp_mono (sV'.trans (same_new n1)) dx) .nil), by show max (dep1 s) 0 < 12; omega, ⟨hsh1, by show 0 < 2000; omega, trivial⟩, fun H4 s4 => ?_⟩⟩
      have s14 := (same_new n1).trans s4
      have sx4 := sx.trans (Same.sx (D := o) s14)
      have eo4 := s14 _ _ eo'
      have da4 := dpAll_mono (vw_to (V0 := V0) (H := H) s14) da
      have sV4 := sx4.same sV vo
      clear s14 s4 n1 sV' eo' da sx
      rw [show totL [s] = tot1 s from rfl]
      refine ⟨_, rfl, ?_⟩
      dsimp only [gName]
      refine ⟨fun σ' H' => H' = H4 ∧ σ' = [some (.ref a), some (.int (q0 : Int)), some (.int (l : Int)), some (.ref o), some (.int (0 + (i : Int))), some (.int ((tot1 s : Nat) : Int)), some (.int ((nxt (ss.drop (i + 1)) (q0 + tot1 s) l : Nat) : Int)), y7, y8, y9], ?_, ?_⟩
      · have hdl : (ss.drop (i + 1)).length = ss.length - (i + 1) := List.length_drop
        refine ifS (b := decide (0 + (i : Int) + 1 < (vs.length : Int))) (fun Q q => ⟨_, rfl, _, _, rfl, rfl, _, rfl, _, _, rfl, .inl (sV4.seq hs0), _, _, rfl, rfl, _, rfl, q⟩) (fun hb => ?_) (fun hb => ?_)
        · have hlt : 0 + (i : Int) + 1 < (vs.length : Int) := of_decide_eq_true hb
          refine ⟨_, rfl, _, rfl, _, _, rfl, rfl, rfl, ?_⟩
          unfold nxt
          rw [if_pos (by omega)]
          rfl
        · have hlt : ¬ 0 + (i : Int) + 1 < (vs.length : Int) := of_decide_eq_false hb
          refine ⟨rfl, ?_⟩
          unfold nxt
          rw [if_neg (by omega)]
          rfl
      rintro σ' H' ⟨rfl, rfl⟩
      generalize nxt (ss.drop (i + 1)) (q0 + tot1 s) l = fo at er2 ⊢
      refine ⟨_, rfl, .inl ⟨rfl, _, sq eo4⟩, _, rfl, _, rfl, _, rfl, _, _, _, _, rfl, rfl, sV4.seq hs0, hat, _, rfl, szc 3, fun T nT => ?_⟩
      have sT := same_new nT (o := HO.tup [V.int (q0 : Int), .ref ta, V.int (fo : Int)])
      have hTo : T ≠ o := fun e => by rw [e, eo4] at nT; cases nT
      have dm4 := sx4.dm eo4
      refine ⟨o, _, _, rfl, rfl, sT _ _ eo4, szl (by rw [List.length_append]; omega), ?_⟩
      have eo5 : (upd (upd H' T (.tup [V.int (q0 : Int), .ref ta, V.int (fo : Int)])) o (.lst ((xs ++ ys) ++ [.ref T]))) o = some (.lst (xs ++ (ys ++ [.ref T]))) := by rw [upd_same, List.append_assoc]
      have sx5 := (sx4.trans (Same.sx (D := o) sT)).trans (sx_upd (u := .lst ((xs ++ ys) ++ [.ref T])))
      have da5 : DpAll K (Vw V0 H (upd (upd H' T (.tup [V.int (q0 : Int), .ref ta, V.int (fo : Int)])) o (.lst ((xs ++ ys) ++ [.ref T])))) (ys ++ [.ref T]) ((acc ++ [Rw.mk q0 s fo]).map lrowD) := by
        rw [List.map_append]
        refine dpAll_mono (vw_upd eo) (dpa_app (dpAll_mono (vw_to sT) da4) (.cons (.tup (xs := [V.int (q0 : Int), .ref ta, V.int (fo : Int)]) (st ((vw_at (dm4 _ nT)).trans upd_same)) (.cons (.int _) (.cons (dp_mono (vw_base (sV4.trans sT)) dx) (.cons (.int _) .nil)))) .nil))
      generalize upd (upd H' T (.tup [V.int (q0 : Int), .ref ta, V.int (fo : Int)])) o (.lst ((xs ++ ys) ++ [.ref T])) = H5 at eo5 sx5 da5 ⊢
      have sV5 := sx5.same sV vo
      clear sT nT hTo sV4 da4 eo4 sx4 dm4
      refine ⟨_, rfl, _, _, rfl, rfl, ?_⟩
      dsimp only [gName]
      refine ⟨_, rfl, _, rfl, _, _, _, _, rfl, rfl, sV5.seq hs0, hat, V0, _, s, rfl, sV5, dx, fun H6 A zs s6 hz dz => ?_⟩
      have hzl := dpa_len dz
      rw [datass_len] at hzl
      have sV6 := sV5.trans s6
      refine ⟨A, rfl, ⟨_, (vw_same sV6).seq hz⟩, for_list (xs := zs) (fun j σ' H' => ∃ (y8 y9 : Option V) (acc2 : List Rw) (ys2 : List V), σ' = [some (.ref a), some (.int (q0 : Int)), some (.int (l : Int)), some (.ref o), some (.int (0 + (i : Int))), some (.int ((tot1 s : Nat) : Int)), some (.int (fo : Int)), some (.int ((q0 + 1 + acc2.length : Nat) : Int)), y8, y9] ∧ Sx o H H' ∧ Sx o H6 H' ∧ H' o = some (.lst (xs ++ ys2)) ∧ DpAll K (Vw V0 H H') ys2 ((acc ++ Rw.mk q0 s fo :: acc2).map lrowD) ∧ rwsLL s.parts (q0 + 1) (bck s q0 fo) = acc2 ++ rwsLL (s.parts.drop j) (q0 + 1 + acc2.length) (bck s q0 fo)) ?_ (fun j σ' H' _ h => ?_) ?_ ?_⟩
      · exact ⟨_, _, [], ys ++ [.ref T], rfl, sx5.trans (Same.sx s6), Sx.refl _ _, s6 _ _ eo5, dpAll_mono (vw_to s6) da5, by rw [List.drop_zero]; rfl⟩
      · obtain ⟨y8, y9, acc2, ys2, rfl, sx', sx6, _⟩ := h
        exact (vw_same (sx'.same sV vo)).seq ((vw_sx eo5 sx6).seq hz)
      · rintro j y σ' H' hy ⟨y8, y9, acc2, ys2, rfl, sx', sx6, eo6, da6, er6⟩
        obtain ⟨b, hbj, dy⟩ := dpss_at dz hy
        have hbm : b ∈ s.parts := List.mem_of_getElem? hbj
        have hdb := dep_parts hbm
        have sV7 := sx'.same sV vo
        have hal2 : ys2.length = acc.length + (acc2.length + 1) := by
          have := dpa_len da6
          rw [List.length_map, List.length_append, List.length_cons] at this
          exact this
        have hrl3 : acc2.length + totLL (s.parts.drop j) = totLL s.parts := by
          have := congrArg List.length er6
          rw [List.length_append, rwsLL_len, rwsLL_len] at this
          exact this.symm
        rw [drop_get hbj] at er6 hrl3
        have hrl4 : acc2.length + (totL b + totLL (s.parts.drop (j + 1))) = totLL s.parts := hrl3
        have er7 : rwsLL s.parts (q0 + 1) (bck s q0 fo) = acc2 ++ (rwsL b (q0 + 1 + acc2.length) (bck s q0 fo) ++ rwsLL (s.parts.drop (j + 1)) (q0 + 1 + acc2.length + totL b) (bck s q0 fo)) := er6
        dsimp only [gName]
        refine ⟨_, rfl, ?_⟩
        dsimp only [gName]
        refine ⟨fun σ'' H'' => H'' = H' ∧ σ'' = [some (.ref a), some (.int (q0 : Int)), some (.int (l : Int)), some (.ref o), some (.int (0 + (i : Int))), some (.int ((tot1 s : Nat) : Int)), some (.int (fo : Int)), some (.int ((q0 + 1 + acc2.length : Nat) : Int)), some y, some (.int ((bck s q0 fo : Nat) : Int))], ?_, ?_⟩
        · refine ifS (b := decide (V.str s.word = V.str (Str.ofString "loop"))) (fun Q q => ⟨_, rfl, _, rfl, _, _, _, _, rfl, rfl, sV7.seq hs0, hat, _, _, _, _, rfl, rfl, Same.seqT sV7 hts, atI_nat (j := 0) rfl, rfl, _, rfl, q⟩) (fun hb => ?_) (fun hb => ?_)
          · refine ⟨_, rfl, rfl, ?_⟩
            rw [show bck s q0 fo = q0 from if_pos (str_inj (of_decide_eq_true hb))]
            rfl
          · refine ⟨rfl, ?_⟩
            rw [show bck s q0 fo = fo from if_neg (dec_ne hb)]
            rfl
        rintro σ'' H'' ⟨rfl, rfl⟩
        refine ⟨_, rfl, _, rfl, _, rfl, _, rfl, V0, y, b, q0 + 1 + acc2.length, bck s q0 fo, o, xs ++ ys2, rfl, sV7, vo, dy, eo6, by omega, hpp.2 b hbm, by rw [List.length_append]; omega, fun H7 y7 x7 e7 d7 => ?_⟩
        have sx7 := sx'.trans x7
        have sV8 := sx7.same sV vo
        refine ⟨_, rfl, _, rfl, y, b, rfl, dp_mono sV8 dy, by omega, hpp.2 b hbm, fun H8 s8 => ?_⟩
        refine ⟨_, _, rfl, rfl, ?_⟩
        dsimp only [gName]
        refine ⟨some y, some (.int ((bck s q0 fo : Nat) : Int)), acc2 ++ rwsL b (q0 + 1 + acc2.length) (bck s q0 fo), ys2 ++ y7, ?_, sx7.trans (Same.sx s8), (sx6.trans x7).trans (Same.sx s8), ?_, ?_, ?_⟩
        · rw [List.length_append, rwsL_len, ← Nat.add_assoc]
          rfl
        · rw [← List.append_assoc]
          exact s8 _ _ e7
        · rw [← List.cons_append, ← List.append_assoc, List.map_append]
          exact dpAll_mono (vw_to s8) (dpa_app (dpAll_mono (vw_sx eo x7) da6) (dpAll_mono (vw_mono sV (sx'.dm eo6) (Same.refl _)) d7))
        · rw [List.append_assoc, List.length_append, rwsL_len, ← Nat.add_assoc]
          exact er7
      · rintro σ' H' ⟨y8, y9, acc2, ys2, rfl, sx', sx6, eo6, da6, er6⟩
        rw [List.drop_of_length_le (by omega)] at er6
        have er7 : rwsLL s.parts (q0 + 1) (bck s q0 fo) = acc2 := er6.trans (List.append_nil _)
        have ew : rws1 s q0 fo = ⟨q0, s, fo⟩ :: acc2 := by rw [rws_parts, er7]
        refine ⟨_, rfl, _, rfl, _, _, rfl, rfl, some (.int (0 + (i : Int))), some (.int ((tot1 s : Nat) : Int)), some (.int (fo : Int)), some (.int ((q0 + 1 + acc2.length : Nat) : Int)), y8, y9, acc ++ rws1 s q0 fo, ys2, ?_, sx', eo6, ?_, ?_⟩
        · rw [List.length_append, rws1_len, ← Nat.add_assoc, hq]
          rfl
        · rw [ew]
          exact da6
        · rw [List.append_assoc, List.length_append, rws1_len, ← Nat.add_assoc, hq]
          exact er2
    · rintro σ' H' ⟨y4, y5, y6, y7, y8, y9, acc, ys, rfl, sx, eo', da, er⟩
      rw [List.drop_of_length_le (by omega)] at er
      have er2 : rwsL ss p l = acc := er.trans (List.append_nil _)
      refine q H' ys sx eo' ?_
      rw [er2]
      exact da
end
theorem lrows_at {K : PySem.W.Frag} {H : Hp} {xs : List V} {rs : List Rw} {i : Nat} {x : V} (ha : DpAll K H xs (rs.map lrowD)) (hx : xs[i]? = some x) : ∃ r, rs[i]? = some r ∧ ∃ a sv, x = .ref a ∧ SqT K H a [natV r.pt, sv, natV r.fo] ∧ Dp K H sv r.st.data := by
  obtain ⟨d, hdi, dx⟩ := dpa_at ha hx
  rw [List.getElem?_map] at hdi
  cases e : rs[i]? with
  | none => rw [e] at hdi; cases hdi
  | some r =>
    rw [e] at hdi
    have hd : lrowD r = d := Option.some.inj hdi
    subst hd
    obtain ⟨a, xs, rfl, hs, h1⟩ := dp_tup dx
    obtain ⟨v1, r1, rfl, d1, h1⟩ := dpa_cons h1
    obtain ⟨v2, r2, rfl, d2, h1⟩ := dpa_cons h1
    obtain ⟨v3, r3, rfl, d3, h1⟩ := dpa_cons h1
    obtain rfl := dpa_nil h1
    rw [dp_nat d1, dp_nat d3] at hs
    exact ⟨r, rfl, a, v2, rfl, hs, d2⟩
def flowRests (ss : List ST) : List (Str × Nat × Nat) := rstsR (totL ss + 1) (rwsL ss 0 (totL ss))
def flowD (ss : List ST) : PyData := .tuple [.list ((rwsL ss 0 (totL ss)).map lrowD), natD (totL ss), .list ((flowRests ss).map restD)]
section
variable {P : Program} {w : World} {K : PySem.W.Frag} {mg : Str → Option Value} {base : Heap}
def spFlow (K : PySem.W.Frag) : Sp := fun vs H Q _ => ∃ (V0 : Hp) (v : V) (ss : List ST), vs = [v] ∧ Same V0 H ∧ Dp K V0 v (.list (datas ss)) ∧ depL ss < 12 ∧ shtL ss ∧ totL ss ≤ 50000 ∧ ∀ H' t, Same H H' → Dp K (Vw V0 H H') t (flowD ss) → Q t H'
abbrev s_law_flow : Stmt := topS 32
theorem sc_law_flow : FnScope ["body", "out", "end", "rests", "entry"] ["body"] (defScope s_law_flow) := ⟨rfl, rfl, rfl, by decide +kernel, rfl, by decide +kernel, by decide +kernel⟩
-- _law_flow slots: body=0 out=1 end=2 rests=3 entry=4 globals: _law_total _law_spread len
theorem fd_law_flow {f : Addr} {fd : FuncData} (F : Fun K "_law_flow" "_law_flow" s_law_flow f fd) (m : mg "_law_flow" = some (.ref f)) (B : Bt mg) (D_law_total : Fd P w K mg base "_law_total" ["body"] 13 (spTot K 12)) (D_law_spread : Fd P w K mg base "_law_spread" ["body", "at", "after", "out"] 26 (spSpread K 12)) : Fd P w K mg base "_law_flow" ["body"] 27 (spFlow K) := by
  refine ⟨f, fd, F.ok sc_law_flow (fun vs H Q E h => ?_) (fun cdv A outer s H vs Q E hr h => ?_), m, F.kp, F.binds (ps := ["body"]) fun _ _ _ _ _ _ us hl => match us, hl with | [_], _ => rfl⟩
  · obtain ⟨V0, v, ss, rfl, _⟩ := h
    rfl
  obtain ⟨V0, v, ss, rfl, sV, hd, f1, f2, f3, q⟩ := h
  refine ⟨_, (pss_cons (ps_set (i := 1) sc_law_flow.nd rfl (Or.inl rfl) (pe_lst pa_nil))
 (pss_cons (ps_set (i := 2) sc_law_flow.nd rfl (Or.inl rfl) (pe_fn D_law_total (hr.mono (by omega)) rfl (pa_cons (pv 0) pa_nil)))
 (pss_cons (ps_expr (pe_fn D_law_spread hr rfl (pa_cons (pv 0) (pa_cons pe_int (pa_cons (pv 2) (pa_cons (pv 1) pa_nil))))))
 (pss_cons (ps_set (i := 3) sc_law_flow.nd rfl (Or.inl rfl) (pe_lst pa_nil))
 (pss_cons (ps_for PassesOwn.never rfl (piL K (pv 1)) (pg_name (i := 4) sc_law_flow.nd rfl (Or.inl rfl))
 (pss_one (ps_if (pt_cmpR op_eq (pe_ix (ixT K) (pe_ix (ixT K) (pv 4) pe_int (fun _ _ => rfl)) pe_int (fun _ _ => rfl)) pe_str (nomark _))
 (pss_one (ps_expr (peBm K PySem.F.plainAttrs_list PySem.F.slot_list_append PySem.F.type_list_append mt_append (pv 3) (pa_cons (pe_tup (pa_cons (pe_ix (ixT K) (pe_ix (ixT K) (pv 4) pe_int (fun _ _ => rfl)) pe_int (fun _ _ => rfl)) (pa_cons (pe_op op_add (pe_op op_add (pv 2) pe_int) (pe_callB (cLen K) (by rfl) B.len PySem.boot_len (pa_cons (pv 3) pa_nil))) (pa_cons (pe_ix (ixT K) (pv 4) pe_int (fun _ _ => rfl)) pa_nil)))) pa_nil))))
 pss_nil)))
 (pss_one (ps_ret (pe_tup (pa_cons (pv 1) (pa_cons (pv 2) (pa_cons (pv 3) pa_nil))))))))))), ?_⟩
  refine ⟨szc 0, fun o no => ?_⟩
  have so := same_new no (o := HO.lst [])
  have eo : (upd H o (.lst [])) o = some (.lst []) := upd_same
  have vo := sV.free no
  dsimp only [gName]
  refine ⟨_, rfl, v, ss, rfl, dp_mono (sV.trans so) hd, f1, f2, fun H1 s1 => ?_⟩
  have sH1 := so.trans s1
  have eo1 := s1 _ _ eo
  dsimp only [gName]
  refine ⟨_, rfl, _, rfl, _, rfl, V0, v, ss, 0, totL ss, o, [], rfl, sV.trans sH1, vo, hd, eo1, f1, f2, by show 0 + totL ss ≤ 50000; omega, fun H2 ys x2 e2 da => ?_⟩
  have sm2 := x2.same sH1 no
  have sV2 := sV.trans sm2
  rw [List.nil_append] at e2
  have hyl : ys.length = totL ss := by
    have := dpa_len da
    rw [List.length_map, rwsL_len] at this
    exact this
  have hrn : (rwsL ss 0 (totL ss)).length = ys.length := by rw [hyl]; exact rwsL_len _ _ _
  refine ⟨szc 0, fun D nD => ?_⟩
  have sD := same_new nD (o := HO.lst [])
  have eD : (upd H2 D (.lst [])) D = some (.lst []) := upd_same
  have nDH := sm2.free nD
  have hoD : o ≠ D := fun e => by rw [← e, e2] at nD; cases nD
  have dmD : Dm (upd H D (.lst [])) (upd H2 D (.lst [])) := dm_upd2 sm2
  dsimp only [gName]
  refine ⟨_, rfl, o, rfl, ⟨_, sq (sD _ _ e2)⟩, for_list (xs := ys) (fun i σ' H' => ∃ (y4 : Option V) (acc : List (Str × Nat × Nat)) (zs : List V), σ' = [some v, some (.ref o), some (.int ((totL ss : Nat) : Int)), some (.ref D), y4] ∧ Same H2 H' ∧ Dm (upd H D (.lst [])) H' ∧ H' D = some (.lst zs) ∧ DpAll K (Vw V0 (upd H D (.lst [])) H') zs (acc.map restD) ∧ flowRests ss = acc ++ rstsR (totL ss + 1 + acc.length) ((rwsL ss 0 (totL ss)).drop i)) ?_ (fun i σ' H' _ h => ?_) ?_ ?_⟩
  · exact ⟨none, [], [], rfl, sD, dmD, eD, .nil, by rw [List.drop_zero]; rfl⟩
  · obtain ⟨y4, acc, zs, rfl, sm, _⟩ := h
    exact sq (sm _ _ e2)
  · rintro i x σ' H' hx ⟨y4, acc, zs, rfl, sm, dm, eD', dz, er⟩
    obtain ⟨r, hri, a, sv, rfl, ha, hs⟩ := lrows_at (dpAll_mono ((vw_same (V0 := V0) (H := H1) sV2).trans sm) da) hx
    obtain ⟨as, xs, rfl, hss, hxs⟩ := st_dp hs
    have hal : zs.length = acc.length := by
      have := dpa_len dz
      rw [List.length_map] at this
      exact this
    have hfew : acc.length ≤ 50000 := by
      have h1 := congrArg List.length er
      rw [List.length_append] at h1
      have h2 : (flowRests ss).length ≤ (rwsL ss 0 (totL ss)).length := rstsR_len _ _
      omega
    rw [drop_get hri] at er
    dsimp only [gName]
    refine ifS (b := _) (fun Q q => ⟨_, rfl, _, _, _, _, rfl, rfl, ha, atI_nat (j := 1) rfl, _, _, _, _, rfl, rfl, hss, atI_nat (j := 0) rfl, rfl, _, rfl, q⟩) (fun hb => ?_) (fun hb => ?_)
    · obtain ⟨pt, s, fo⟩ := r
      obtain ⟨bl, rfl⟩ := word_rest (str_inj (of_decide_eq_true hb))
      obtain ⟨v1, r1, rfl, d1, hxs⟩ := dpa_cons hxs
      rw [dp_str d1] at hss
      rw [rstsR_rest] at er
      refine ⟨_, rfl, .inl ⟨rfl, _, sq eD'⟩, _, rfl, _, _, _, _, rfl, rfl, ha, atI_nat (j := 1) rfl, _, _, _, _, rfl, rfl, hss, atI_nat (j := 1) rfl, _, rfl, _, _, rfl, rfl, _, rfl, _, _, rfl, .inl (sq eD'), _, _, rfl, rfl, _, rfl, _, _, _, _, rfl, rfl, ha, atI_nat (j := 2) rfl, szc 3, fun T nT => ?_⟩
      rw [hal]
      have sT := same_new nT (o := HO.tup [V.str bl, V.int ((totL ss + 1 + acc.length : Nat) : Int), natV fo])
      have hTD : T ≠ D := fun e => by rw [e, eD'] at nT; cases nT
      refine ⟨D, _, _, rfl, rfl, sT _ _ eD', szl (by omega), _, acc ++ [(bl, totL ss + 1 + acc.length, fo)], zs ++ [.ref T], rfl, Same.mut (sm.trans sT) nD, dm_upr (dm.trans (Same.dm sT)), upd_same, ?_, ?_⟩
      · rw [List.map_append]
        refine dpAll_mono (vw_upd upd_same) (dpa_app (dpAll_mono (vw_to sT) dz) (.cons (.tup (st ((vw_at (dm _ nT)).trans upd_same)) (.cons (.str _) (.cons (.int _) (.cons (.int _) .nil)))) .nil))
      · rw [List.append_assoc, List.length_append]
        exact er
    · have e3 := rstsR_else (q := totL ss + 1 + acc.length) (t := (rwsL ss 0 (totL ss)).drop (i + 1)) (dec_ne hb)
      rw [e3] at er
      exact ⟨_, acc, zs, rfl, sm, dm, eD', dz, er⟩
  · rintro σ' H' ⟨y4, acc, zs, rfl, sm, dm, eD', dz, er⟩
    rw [List.drop_of_length_le (by omega)] at er
    have er2 : flowRests ss = acc := er.trans (List.append_nil _)
    refine ⟨_, rfl, _, rfl, _, rfl, szc 3, fun T nT => ?_⟩
    have sT := same_new nT (o := HO.tup [V.ref o, V.int ((totL ss : Nat) : Int), V.ref D])
    refine q _ _ ((sm2.trans sm).trans sT) (.tup (st ((vw_at ((sm2.trans sm).free nT)).trans upd_same)) (.cons (.lst (xs := ys) (sq ?_) ?_) (.cons (.int _) (.cons (.lst (xs := zs) (sq ?_) ?_) .nil))))
    · rw [vw_at no]
      exact (sm.trans sT) _ _ e2
    · exact dpAll_mono (vw_mono sV (Same.dm sH1) (sm.trans sT)) da
    · rw [vw_at nDH]
      exact sT _ _ eD'
    · rw [er2]
      exact dpAll_mono (vw_mono sV (Same.dm (same_new nDH)) sT) dz
end
/-! ### data that can be shown and compared -/
mutual
def nice : PyData → Bool
  | .none | .bool _ => true
  | .int i => decide (i.natAbs < 10 ^ 7)
  | .str s => (s.cps.toList.all fun c => decide (c < 128)) && decide (s.length ≤ 20)
  | .list xs | .tuple xs => niceAll xs
  | .dict _ => false
def niceAll : List PyData → Bool
  | [] => true
  | x :: xs => nice x && niceAll xs
end
mutual
def cells : PyData → Nat
  | .list xs | .tuple xs => cellsAll xs + 1
  | .none | .bool _ | .int _ | .str _ | .dict _ => 1
def cellsAll : List PyData → Nat
  | [] => 0
  | x :: xs => cells x + cellsAll xs
end
mutual
theorem nice_lay : ∀ d : PyData, nice d = true → d.canLay0 = true
  | .none, _ => rfl
  | .bool _, _ => rfl
  | .int _, _ => rfl
  | .str s, h => by
    simp only [nice, Bool.and_eq_true, List.all_eq_true, decide_eq_true_eq] at h
    show (s.cps.all fun c => decide (c < 0x110000)) = true
    rw [← Array.all_toList, List.all_eq_true]
    intro c hc
    have := h.1 c hc
    exact decide_eq_true (by omega)
  | .list xs, h => by
    show PyData.canLayAll0 xs = true
    exact nice_layAll xs h
  | .tuple xs, h => by
    show PyData.canLayAll0 xs = true
    exact nice_layAll xs h
  | .dict _, h => nomatch h
theorem nice_layAll : ∀ xs : List PyData, niceAll xs = true → PyData.canLayAll0 xs = true
  | [], _ => rfl
  | x :: xs, h => by
    have h' : nice x = true ∧ niceAll xs = true := by simpa only [niceAll, Bool.and_eq_true] using h
    show (x.canLay0 && PyData.canLayAll0 xs) = true
    rw [nice_lay x h'.1, nice_layAll xs h'.2]
    rfl
end
mutual
theorem nice_short : ∀ d : PyData, nice d = true → d.leavesShort 8 = true ∧ d.showable = true
  | .none, _ => ⟨rfl, rfl⟩
  | .bool _, _ => ⟨rfl, rfl⟩
  | .int i, h => by
    have h1 : i.natAbs < 10 ^ 7 := by simpa only [nice, decide_eq_true_eq] using h
    refine ⟨?_, ?_⟩
    · show decide ((Str.ofString (toString i)).length ≤ 8) = true
      have := int_text_length_le10 (a := i) (k := 7) (by decide) h1
      refine decide_eq_true ?_
      rw [PySem.ofString_length]
      exact this
    · show decide (i.natAbs.log2 < 1920) = true
      refine decide_eq_true ?_
      have h2 : i.natAbs.log2 ≤ i.natAbs := Nat.log2_le_self _
      by_cases h0 : i.natAbs = 0
      · rw [h0]; decide
      · rw [Nat.log2_lt h0]
        exact Nat.lt_of_lt_of_le h1 (by decide +kernel)
  | .str s, h => by
    simp only [nice, Bool.and_eq_true, List.all_eq_true, decide_eq_true_eq] at h
    refine ⟨?_, rfl⟩
    show (s.cps.toList.all fun c => decide (c < 16 ^ 8)) = true
    rw [List.all_eq_true]
    intro c hc
    have := h.1 c hc
    exact decide_eq_true (Nat.lt_of_lt_of_le this (by decide))
  | .list xs, h => nice_shortAll xs h
  | .tuple xs, h => nice_shortAll xs h
  | .dict _, h => nomatch h
theorem nice_shortAll : ∀ xs : List PyData, niceAll xs = true → PyData.leavesShortAll 8 xs = true ∧ PyData.showableAll xs = true
  | [], _ => ⟨rfl, rfl⟩
  | x :: xs, h => by
    have h' : nice x = true ∧ niceAll xs = true := by simpa only [niceAll, Bool.and_eq_true] using h
    obtain ⟨a1, a2⟩ := nice_short x h'.1
    obtain ⟨b1, b2⟩ := nice_shortAll xs h'.2
    refine ⟨?_, ?_⟩
    · show (x.leavesShort 8 && PyData.leavesShortAll 8 xs) = true
      rw [a1, b1]; rfl
    · show (x.showable && PyData.showableAll xs) = true
      rw [a2, b2]; rfl
end
mutual
theorem nice_bulk : ∀ d : PyData, nice d = true → d.bulk + 1 ≤ 21 * cells d
  | .none, _ => by decide
  | .bool _, _ => by show 0 + 1 ≤ 21 * 1; decide
  | .int _, _ => by show 0 + 1 ≤ 21 * 1; decide
  | .str s, h => by
    simp only [nice, Bool.and_eq_true, List.all_eq_true, decide_eq_true_eq] at h
    have : s.cps.size ≤ 20 := h.2
    show s.cps.size + 1 ≤ 21 * 1
    omega
  | .list xs, h => by
    have := nice_bulkAll xs h
    show PyData.bulkAll xs + 1 ≤ 21 * (cellsAll xs + 1)
    omega
  | .tuple xs, h => by
    have := nice_bulkAll xs h
    show PyData.bulkAll xs + 1 ≤ 21 * (cellsAll xs + 1)
    omega
  | .dict _, h => nomatch h
theorem nice_bulkAll : ∀ xs : List PyData, niceAll xs = true → PyData.bulkAll xs ≤ 21 * cellsAll xs
  | [], _ => by decide
  | x :: xs, h => by
    have h' : nice x = true ∧ niceAll xs = true := by simpa only [niceAll, Bool.and_eq_true] using h
    have h1 := nice_bulk x h'.1
    have h2 := nice_bulkAll xs h'.2
    show x.bulk + 1 + PyData.bulkAll xs ≤ 21 * (cells x + cellsAll xs)
    omega
end
structure NcD (d : PyData) (c m : Nat) : Prop where
  ni : nice d = true
  ce : cells d ≤ c
  de : d.depth ≤ m
structure NcL (ds : List PyData) (c m : Nat) : Prop where
  ni : niceAll ds = true
  ce : cellsAll ds ≤ c
  de : PyData.depthAll ds ≤ m
theorem NcD.mono {d : PyData} {c m c' m' : Nat} (h : NcD d c m) (h1 : c ≤ c') (h2 : m ≤ m') : NcD d c' m' := ⟨h.ni, Nat.le_trans h.ce h1, Nat.le_trans h.de h2⟩
theorem NcL.mono {d : List PyData} {c m c' m' : Nat} (h : NcL d c m) (h1 : c ≤ c') (h2 : m ≤ m') : NcL d c' m' := ⟨h.ni, Nat.le_trans h.ce h1, Nat.le_trans h.de h2⟩
theorem NcL.nil {c m : Nat} : NcL [] c m := ⟨rfl, Nat.zero_le _, Nat.zero_le _⟩
theorem NcL.cons {d : PyData} {ds : List PyData} {c1 c2 m : Nat} (h : NcD d c1 m) (t : NcL ds c2 m) : NcL (d :: ds) (c1 + c2) m := by
  have h1 := h.ce
  have h2 := t.ce
  have h3 := h.de
  have h4 := t.de
  refine ⟨?_, ?_, ?_⟩
  · show (nice d && niceAll ds) = true
    rw [h.ni, t.ni]; rfl
  · show cells d + cellsAll ds ≤ c1 + c2
    omega
  · show max d.depth (PyData.depthAll ds) ≤ m
    omega
theorem NcL.tup {ds : List PyData} {c m : Nat} (h : NcL ds c m) : NcD (.tuple ds) (c + 1) (m + 1) := ⟨h.ni, Nat.succ_le_succ h.ce, Nat.succ_le_succ h.de⟩
theorem NcL.lst {ds : List PyData} {c m : Nat} (h : NcL ds c m) : NcD (.list ds) (c + 1) (m + 1) := ⟨h.ni, Nat.succ_le_succ h.ce, Nat.succ_le_succ h.de⟩
theorem NcD.str {s : Str} {m : Nat} (h : nice (.str s) = true) : NcD (.str s) 1 m := ⟨h, Nat.le_refl _, Nat.zero_le _⟩
theorem NcD.int {i : Int} {m : Nat} (h : i.natAbs < 10 ^ 7) : NcD (.int i) 1 m := ⟨decide_eq_true h, Nat.le_refl _, Nat.zero_le _⟩
theorem NcD.shaped {d : PyData} {c m : Nat} (h : NcD d c m) (hm : m ≤ 64) : SeqAt.shaped d = true := by
  show (d.canLay0 && decide (d.depth ≤ 64)) = true
  have h1 := h.de
  rw [nice_lay d h.ni, decide_eq_true (by omega)]
  rfl
theorem NcD.eqv {d : PyData} {c m : Nat} (h : NcD d c m) : PyData.eqv d d = true := SeqAt.eqv_refl d (nice_lay d h.ni)
structure Shw (d : PyData) : Prop where
  sh : d.showable = true
  nd : d.hasDict = false
  de : d.depth ≤ 60
  ln : d.shown.length ≤ sizeLine
theorem NcD.shw {d : PyData} {c m : Nat} (h : NcD d c m) (hc : c ≤ 40000) (hm : m ≤ 60) : Shw d := by
  have h1 := nice_short d h.ni
  have h2 := nice_bulk d h.ni
  have h3 := h.de
  have h4 := h.ce
  refine ⟨h1.2, PyData.hasDict_of_canLay d (nice_lay d h.ni), by omega, PyData.shown_fits_bulk (by decide) (by decide) h1.1 ?_⟩
  rw [show (2 : Nat) ^ 20 = 1048576 from rfl]
  omega
/-! ### of trees -/
def sN (s : Str) : Prop := nice (.str s) = true
theorem NmF.sN {s : Str} (h : NmF s) : sN s := by
  have hs : ∀ c ∈ sgns.cps.toList, c < 128 := by decide +kernel
  show ((s.cps.toList.all fun c => decide (c < 128)) && decide (s.length ≤ 20)) = true
  rw [decide_eq_true h.l20, Bool.and_true, List.all_eq_true]
  intro c hc
  exact decide_eq_true (hs c (h.al c hc))
theorem vt_nc {ss : List Str} (hs : ∀ s ∈ ss, sN s) : ∀ {t : VT} {d : Nat}, VOk ss d t → NcD t.data (3 * 2 ^ d - 2) d
  | .int i, d, h => by
    have hp := Nat.two_pow_pos d
    obtain ⟨h1, h2⟩ : -99 ≤ i ∧ i ≤ 99 := h
    exact (NcD.int (by omega)).mono (by omega) (Nat.le_refl _)
  | .nm s, d, h => by
    have hp := Nat.two_pow_pos d
    exact (NcD.str (hs s h)).mono (by omega) (Nat.le_refl _)
  | .op o a b, d, ⟨e, h, ha, hb⟩ => by
    have h1 := vt_nc hs ha
    have h2 := vt_nc hs hb
    subst h
    have ho : nice (.str o.tx) = true := by cases o <;> decide +kernel
    have hp := Nat.two_pow_pos e
    refine (NcL.tup (.cons (.str ho) (.cons h1 (.cons h2 (.nil (c := 0)))))).mono ?_ (Nat.le_refl _)
    rw [Nat.pow_succ]
    omega
theorem ct_nc {ss : List Str} (hs : ∀ s ∈ ss, sN s) : ∀ {t : CT} {d : Nat}, COk ss d t → NcD t.data (12 * 2 ^ d - 2) (d + 2)
  | .bl b, d, _ => by
    have hp := Nat.two_pow_pos d
    exact ⟨rfl, by show 1 ≤ _; omega, Nat.zero_le _⟩
  | .no c, d, ⟨e, h, ha⟩ => by
    have h1 := ct_nc hs ha
    subst h
    have hp := Nat.two_pow_pos e
    refine (NcL.tup (.cons (.str (show nice (.str (Str.ofString "not")) = true by decide +kernel)) (.cons h1 (.nil (c := 0))))).mono ?_ (by omega)
    rw [Nat.pow_succ]
    omega
  | .an a b, d, ⟨e, h, ha, hb⟩ => by
    have h1 := ct_nc hs ha
    have h2 := ct_nc hs hb
    subst h
    have hp := Nat.two_pow_pos e
    refine (NcL.tup (.cons (.str (show nice (.str (Str.ofString "and")) = true by decide +kernel)) (.cons h1 (.cons h2 (.nil (c := 0)))))).mono ?_ (by omega)
    rw [Nat.pow_succ]
    omega
  | .or a b, d, ⟨e, h, ha, hb⟩ => by
    have h1 := ct_nc hs ha
    have h2 := ct_nc hs hb
    subst h
    have hp := Nat.two_pow_pos e
    refine (NcL.tup (.cons (.str (show nice (.str (Str.ofString "or")) = true by decide +kernel)) (.cons h1 (.cons h2 (.nil (c := 0)))))).mono ?_ (by omega)
    rw [Nat.pow_succ]
    omega
  | .cp o a b, d, ⟨ha, hb⟩ => by
    have h1 := vt_nc hs ha
    have h2 := vt_nc hs hb
    have ho : nice (.str o.tx) = true := by cases o <;> decide +kernel
    have hp := Nat.two_pow_pos d
    exact (NcL.tup (.cons (.str ho) (.cons h1 (.cons h2 (.nil (c := 0)))))).mono (by omega) (by omega)
structure GE.Nc (e : GE) : Prop where
  v : ∀ s ∈ e.vars, sN s
  l : ∀ s ∈ e.locks, sN s
  b : ∀ s ∈ e.bells, sN s
  t : ∀ s ∈ e.titles, sN s
  n : ∀ s ∈ e.names, sN s
theorem gb_mem2 {e : GE} {h : List Str} {d : Nat} : ∀ {ss : List ST}, GB e h d ss → ∀ s ∈ ss, (∃ l, l ∈ e.locks ∧ (s = .acq l ∨ s = .rel l)) ∨ ∃ h', GS e h' d s
  | _, .nil, _, hs => by cases hs
  | _, .cons g r, s, hs => by
    rcases List.mem_cons.mp hs with e | e
    · rw [e]; exact .inr ⟨_, g⟩
    · exact gb_mem2 r s e
  | _, .lock h1 _ b r, s, hs => by
    rcases List.mem_cons.mp hs with e | e
    · exact .inl ⟨_, h1, .inl e⟩
    · rcases List.mem_append.mp e with e | e
      · exact gb_mem2 b s e
      · rcases List.mem_cons.mp e with e | e
        · exact .inl ⟨_, h1, .inr e⟩
        · exact gb_mem2 r s e
def StNc (s : ST) : Prop := NcD s.data (60 * tot1 s) (3 * dep1 s + 6)
def BdNc (ss : List ST) : Prop := NcL (datas ss) (60 * totL ss) (3 * depL ss + 6)
theorem bd_of : ∀ {ss : List ST}, (∀ s ∈ ss, StNc s) → BdNc ss
  | [], _ => .nil
  | s :: r, h => by
    have h1 : NcD s.data (60 * tot1 s) (3 * dep1 s + 6) := h s List.mem_cons_self
    have h2 : NcL (datas r) (60 * totL r) (3 * depL r + 6) := bd_of fun x hx => h x (List.mem_cons_of_mem _ hx)
    refine (NcL.cons (h1.mono (Nat.le_refl _) (m' := 3 * (max (dep1 s) (depL r)) + 6) (by omega)) (h2.mono (Nat.le_refl _) (m' := 3 * (max (dep1 s) (depL r)) + 6) (by omega))).mono ?_ (Nat.le_refl _)
    show _ ≤ 60 * (tot1 s + totL r)
    omega
theorem bds_of : ∀ {bs : List (List ST)}, (∀ b ∈ bs, BdNc b) → NcL (datass bs) (60 * totLL bs + bs.length) (3 * depLL bs + 7)
  | [], _ => .nil
  | b :: r, h => by
    have h1 : NcL (datas b) (60 * totL b) (3 * depL b + 6) := h b List.mem_cons_self
    have h2 := bds_of fun x hx => h x (List.mem_cons_of_mem b hx)
    refine (NcL.cons (h1.lst.mono (Nat.le_refl _) (m' := 3 * (max (depL b) (depLL r)) + 7) (by omega)) (h2.mono (Nat.le_refl _) (m' := 3 * (max (depL b) (depLL r)) + 7) (by omega))).mono ?_ (Nat.le_refl _)
    show _ ≤ 60 * (totL b + totLL r) + (r.length + 1)
    omega
theorem wN (w : String) (h : nice (.str (Str.ofString w)) = true := by decide +kernel) {m : Nat} : NcD (.str (Str.ofString w)) 1 m := .str h
theorem iff_nc {c : CT} {a b : List ST} (hc : NcD c.data 46 4) (ha : BdNc a) (hb : BdNc b) : StNc (.iff c a b) := by
  refine (NcL.tup (m := 3 * max (depL a) (depL b) + 7) (.cons (wN "if") (.cons (hc.mono (Nat.le_refl _) (by omega)) (.cons (ha.lst.mono (Nat.le_refl _) (by omega)) (.cons (hb.lst.mono (Nat.le_refl _) (by omega)) (.nil (c := 0))))))).mono ?_ ?_
  · show _ ≤ 60 * (1 + (totL a + totL b))
    omega
  · show _ ≤ 3 * (max (depL a) (depL b) + 1) + 6
    omega
theorem loop_nc {c : CT} {a : List ST} (hc : NcD c.data 46 4) (ha : BdNc a) : StNc (.loop c a) := by
  refine (NcL.tup (m := 3 * depL a + 7) (.cons (wN "loop") (.cons (hc.mono (Nat.le_refl _) (by omega)) (.cons ha.lst (.nil (c := 0)))))).mono ?_ ?_
  · show _ ≤ 60 * (1 + totL a)
    omega
  · show _ ≤ 3 * (depL a + 1) + 6
    omega
theorem choose_nc {bs : List (List ST)} (hl : bs.length ≤ 50) (h : ∀ b ∈ bs, BdNc b) : StNc (.choose bs) := by
  refine (NcL.tup (.cons (wN "choose") (.cons (bds_of h).lst (.nil (c := 0))))).mono ?_ ?_
  · show _ ≤ 60 * (1 + totLL bs)
    omega
  · show _ ≤ 3 * (depLL bs + 1) + 6
    omega
theorem ls_nc {l : Str} (h : sN l) : StNc (.acq l) ∧ StNc (.rel l) := by
  refine ⟨?_, ?_⟩
  · exact (NcL.tup (m := 0) (.cons (wN "acquire") (.cons (.str h) (.nil (c := 0))))).mono (by show _ ≤ 60 * 1; decide) (by show _ ≤ 3 * 0 + 6; decide)
  · exact (NcL.tup (m := 0) (.cons (wN "release") (.cons (.str h) (.nil (c := 0))))).mono (by show _ ≤ 60 * 1; decide) (by show _ ≤ 3 * 0 + 6; decide)
theorem gs_nc {e : GE} (he : e.Nc) : ∀ (d : Nat) {h : List Str} {s : ST}, GS e h d s → StNc s
  | d, h, s, g => by
    have body : ∀ {d' : Nat} {h' : List Str} {b : List ST}, d' < d → GB e h' d' b → BdNc b := fun hd gb =>
      bd_of fun s hs => by
        rcases gb_mem2 gb s hs with ⟨l, hl, e | e⟩ | ⟨h'', g'⟩
        · rw [e]; exact (ls_nc (he.l l hl)).1
        · rw [e]; exact (ls_nc (he.l l hl)).2
        · exact gs_nc he _ g'
    have k1 : ∀ {m : Nat}, 2 + m ≤ 60 → 2 + m ≤ 60 * 1 := fun h => h
    cases g with
    | skip => exact (NcL.tup (m := 0) (.cons (wN "skip") (.nil (c := 0)))).mono (by show _ ≤ 60 * 1; decide) (by show _ ≤ 3 * 0 + 6; decide)
    | set h1 h2 => exact (NcL.tup (m := 2) (.cons (wN "set") (.cons (.str (he.v _ h1)) (.cons (vt_nc he.v h2) (.nil (c := 0)))))).mono (by show _ ≤ 60 * 1; decide) (by show _ ≤ 3 * 0 + 6; decide)
    | rest h1 => exact (NcL.tup (m := 0) (.cons (wN "rest") (.cons (.str (he.b _ h1)) (.nil (c := 0))))).mono (by show _ ≤ 60 * 1; decide) (by show _ ≤ 3 * 0 + 6; decide)
    | wake h1 => exact (NcL.tup (m := 0) (.cons (wN "wake") (.cons (.str (he.b _ h1)) (.nil (c := 0))))).mono (by show _ ≤ 60 * 1; decide) (by show _ ≤ 3 * 0 + 6; decide)
    | start h1 => exact (NcL.tup (m := 0) (.cons (wN "start") (.cons (.str (he.t _ h1)) (.nil (c := 0))))).mono (by show _ ≤ 60 * 1; decide) (by show _ ≤ 3 * 0 + 6; decide)
    | mark h1 => exact (NcL.tup (m := 0) (.cons (wN "mark") (.cons (.str (he.n _ h1)) (.nil (c := 0))))).mono (by show _ ≤ 60 * 1; decide) (by show _ ≤ 3 * 0 + 6; decide)
    | chk h1 => exact (NcL.tup (m := 4) (.cons (wN "check") (.cons (ct_nc he.v h1) (.nil (c := 0))))).mono (by show _ ≤ 60 * 1; decide) (by show _ ≤ 3 * 0 + 6; decide)
    | awt h1 => exact (NcL.tup (m := 4) (.cons (wN "await") (.cons (ct_nc he.v h1) (.nil (c := 0))))).mono (by show _ ≤ 60 * 1; decide) (by show _ ≤ 3 * 0 + 6; decide)
    | iff hc ha hb la lb => exact iff_nc (ct_nc he.v hc) (body (Nat.lt_succ_self _) ha) (body (Nat.lt_succ_self _) hb)
    | loop hc ha la => exact loop_nc (ct_nc he.v hc) (body (Nat.lt_succ_self _) ha)
    | choose hn hl hb lb => exact choose_nc (by omega) fun b hm => body (Nat.lt_succ_self _) (hb b hm)
theorem gb_nc {e : GE} (he : e.Nc) {h : List Str} {d : Nat} {ss : List ST} (g : GB e h d ss) : BdNc ss :=
  bd_of fun s hs => by
    rcases gb_mem2 g s hs with ⟨l, hl, e | e⟩ | ⟨h'', g'⟩
    · rw [e]; exact (ls_nc (he.l l hl)).1
    · rw [e]; exact (ls_nc (he.l l hl)).2
    · exact gs_nc he _ g'
theorem bl_nc (b : Bool) : NcD (CT.bl b).data 46 4 := ⟨rfl, by show 1 ≤ 46; decide, Nat.zero_le _⟩
theorem one_nc {s : ST} (h : StNc s) : BdNc [s] := bd_of fun x hx => by rw [List.mem_singleton.mp hx]; exact h
theorem nil_nc : BdNc [] := .nil
theorem skip_nc : StNc .skip := (NcL.tup (m := 0) (.cons (wN "skip") (.nil (c := 0)))).mono (by show _ ≤ 60 * 1; decide) (by show _ ≤ 3 * 0 + 6; decide)
theorem mark_nc {m : Str} (h : sN m) : StNc (.mark m) := (NcL.tup (m := 0) (.cons (wN "mark") (.cons (.str h) (.nil (c := 0))))).mono (by show _ ≤ 60 * 1; decide) (by show _ ≤ 3 * 0 + 6; decide)
theorem gk_nc {e : GE} (he : e.Nc) : ∀ {n : Nat} {b : List ST}, GK e n b → BdNc b
  | _, _, .base g h => gb_nc he g
  | _, _, .wif g => one_nc (iff_nc (bl_nc _) (gk_nc he g) nil_nc)
  | _, _, .wch g => one_nc (choose_nc (by show 2 ≤ 50; decide) fun b hb => by
      rcases List.mem_cons.mp hb with h | h
      · rw [h]; exact nil_nc
      · rw [List.mem_singleton.mp h]; exact gk_nc he g)
  | _, _, .wlp g => one_nc (loop_nc (bl_nc _) (gk_nc he g))
  | _, _, .wfi g => bd_of fun x hx => by
      rcases List.mem_cons.mp hx with h | h
      · rw [h]; exact skip_nc
      · rw [List.mem_singleton.mp h]; exact iff_nc (bl_nc _) nil_nc (gk_nc he g)
/-- the names in a drawn program are of the thirty -/
structure PT.Sub (p : PT) (ss : List Str) : Prop where
  s : ∀ x ∈ p.shares.map (·.nm), x ∈ ss
  l : ∀ x ∈ p.locks, x ∈ ss
  b : ∀ x ∈ p.bells, x ∈ ss
  t : ∀ x ∈ p.kinds.map (·.nm), x ∈ ss
theorem dt_sub {α : Type} {ss : List α} {a n : Nat} {x : α} (h : x ∈ (ss.drop a).take n) : x ∈ ss := List.mem_of_mem_drop (List.mem_of_mem_take h)
theorem PT.Ok.sub {p : PT} {ss : List Str} (h : p.Ok ss) : p.Sub ss where
  s := fun x hx => by
    obtain ⟨v, hv, rfl⟩ := List.mem_map.mp hx
    obtain ⟨j, hj⟩ := List.mem_iff_getElem?.mp hv
    exact List.mem_of_getElem? (h.shn j v hj)
  l := fun x hx => by
    rcases h.lk with ⟨m, _, e⟩ | ⟨_, e⟩ | ⟨_, e⟩
    · rw [e] at hx; exact dt_sub hx
    · rw [e] at hx; exact dt_sub hx
    · rw [e] at hx
      rcases List.mem_append.mp hx with m | m
      · exact dt_sub m
      · exact dt_sub m
  b := fun x hx => by
    obtain ⟨m, _, e⟩ := h.be
    rw [e] at hx; exact dt_sub hx
  t := fun x hx => by
    obtain ⟨m, _, e⟩ := h.ti
    rw [e] at hx; exact dt_sub hx
theorem PT.Ok.sN {p : PT} {ss : List Str} (h : p.Ok ss) : ∀ s ∈ ss, sN s := fun s hs => (h.n20.f s hs).sN
theorem PT.Ok.geNc {p : PT} {ss : List Str} (h : p.Ok ss) : (p.ge ss).Nc where
  v := fun s hs => h.sN s (h.sub.s s hs)
  l := fun s hs => h.sN s (h.sub.l s hs)
  b := fun s hs => h.sN s (h.sub.b s hs)
  t := fun s hs => h.sN s (h.sub.t s hs)
  n := fun s hs => h.sN s hs
theorem var_nc {x : VarT} (h : x.Ok) (hn : sN x.nm) : NcD x.data 5 1 := by
  have h0 := h.l0
  have h1 := h.l1
  have h2 := h.l2
  have h3 := h.l3
  exact NcL.tup (m := 0) (.cons (.str hn) (.cons (.int (by omega)) (.cons (.int (by omega)) (.cons (.int (by omega)) (.nil (c := 0))))))
theorem vars_nc : ∀ {xs : List VarT}, (∀ x ∈ xs, x.Ok ∧ sN x.nm) → NcL (xs.map VarT.data) (5 * xs.length) 1
  | [], _ => .nil
  | x :: r, h => by
    refine ((NcL.cons (var_nc (h x List.mem_cons_self).1 (h x List.mem_cons_self).2) (vars_nc fun y hy => h y (List.mem_cons_of_mem _ hy)))).mono ?_ (Nat.le_refl _)
    rw [List.length_cons]
    omega
theorem kt_locs {p : PT} {ss : List Str} (h : p.Ok ss) {k : KT} (hk : k ∈ p.kinds) : (∀ x ∈ k.locs, x.Ok ∧ x.nm ∈ ss) ∧ k.locs.length ≤ 3 := by
  obtain ⟨c, b, _, _, kk⟩ := h.kd
  obtain ⟨j, hj⟩ := List.mem_iff_getElem?.mp hk
  rcases (kk j k hj).ok with ⟨h1, _⟩ | ⟨o0, o1, o2, ho, ok⟩
  · rw [h1]
    exact ⟨fun x hx => (by cases hx), Nat.zero_le _⟩
  · refine ⟨fun x hx => ⟨ok.vs x hx, ?_⟩, ok.few⟩
    obtain ⟨i, hi⟩ := List.mem_iff_getElem?.mp hx
    have := List.mem_of_getElem? (ok.nms i x hi)
    rw [← ho] at this
    exact dt_sub this
theorem kt_body {p : PT} {ss : List Str} (h : p.Ok ss) {k : KT} (hk : k ∈ p.kinds) : BdNc k.body := by
  obtain ⟨c, b, _, _, kk⟩ := h.kd
  obtain ⟨j, hj⟩ := List.mem_iff_getElem?.mp hk
  rcases (kk j k hj).ok with ⟨_, m, hm, h2⟩ | ⟨o0, o1, o2, ho, ok⟩
  · rw [h2]
    exact bd_of fun x hx => by
      rcases List.mem_cons.mp hx with e | e
      · rw [e]; exact skip_nc
      · rw [List.mem_singleton.mp e]; exact mark_nc (h.sN m (List.mem_of_getElem? hm))
  · obtain ⟨n, _, g⟩ := ok.bod
    refine gk_nc (e := (p.ge ss).more k.locs) ⟨fun s hs => ?_, h.geNc.l, h.geNc.b, h.geNc.t, h.geNc.n⟩ g
    rcases List.mem_append.mp hs with m | m
    · exact h.geNc.v s m
    · obtain ⟨x, hx, rfl⟩ := List.mem_map.mp m
      exact h.sN _ ((kt_locs h hk).1 x hx).2
theorem kt_room {p : PT} {ss : List Str} (h : p.Ok ss) {k : KT} (hk : k ∈ p.kinds) : totL k.body + 2 + rstL k.body ≤ 96 ∧ k.room ≤ 96 := by
  have room : ∀ k ∈ p.kinds, ((totL k.body + 2 + rstL k.body : Nat) : Int) ≤ k.room := fun k hk => by
    have := roomI_ge k.locs ((totL k.body : Int) + 2 + (rstL k.body : Int)) (by omega) fun v hv => ((kt_locs h hk).1 v hv).1
    show _ ≤ roomI ((totL k.body : Int) + 2 + (rstL k.body : Int)) k.locs
    omega
  have sum : ∀ (l : List KT), (∀ k ∈ l, (0 : Int) ≤ k.room) → ∀ k ∈ l, k.room ≤ (l.map KT.room).sum := by
    intro l
    induction l with
    | nil => intro _ k hk; cases hk
    | cons x r ih =>
      intro hl k hk
      have h0 := hl x List.mem_cons_self
      have hr : (0 : Int) ≤ (r.map KT.room).sum := by
        clear ih hk
        induction r with
        | nil => exact Int.le_refl _
        | cons y r ih =>
          have := hl y (List.mem_cons_of_mem _ List.mem_cons_self)
          have := ih fun z hz => hl z (by
            rcases List.mem_cons.mp hz with e | e
            · rw [e]; exact List.mem_cons_self
            · exact List.mem_cons_of_mem _ (List.mem_cons_of_mem _ e))
          rw [List.map_cons, List.sum_cons]
          omega
      rw [List.map_cons, List.sum_cons]
      rcases List.mem_cons.mp hk with e | e
      · rw [e]; omega
      · have := ih (fun z hz => hl z (List.mem_cons_of_mem _ hz)) k e
        omega
  have h1 := room k hk
  have h2 := sum p.kinds (fun k hk => by have := room k hk; omega) k hk
  have h3 := h.rm
  exact ⟨by omega, by omega⟩
theorem cnt_nc {p : PT} {ss : List Str} (h : p.Ok ss) {k : KT} (hk : k ∈ p.kinds) {m : Nat} : NcD (cntData k.cnt) 1 m := by
  obtain ⟨c, b, _, _, kk⟩ := h.kd
  obtain ⟨j, hj⟩ := List.mem_iff_getElem?.mp hk
  have := (kk j k hj).cnt.2
  cases hc : k.cnt with
  | none => exact ⟨rfl, Nat.le_refl _, Nat.zero_le _⟩
  | some i =>
    have := this i hc
    exact .int (by omega)
theorem kt_dep {p : PT} {ss : List Str} (h : p.Ok ss) {k : KT} (hk : k ∈ p.kinds) : k.Fit := by
  obtain ⟨c, b, _, _, kk⟩ := h.kd
  obtain ⟨j, hj⟩ := List.mem_iff_getElem?.mp hk
  have hr := (kt_room h hk).1
  rcases (kk j k hj).ok with ⟨_, m, hm, h2⟩ | ⟨o0, o1, o2, ho, ok⟩
  · refine ⟨?_, ?_, by omega⟩
    · rw [h2]; show 0 < 12; decide
    · rw [h2]; exact ⟨trivial, by show 1 < 2000; decide, trivial, by decide, trivial⟩
  · obtain ⟨n, hn, g⟩ := ok.bod
    have := gk_sht g
    exact ⟨by omega, this.1, by omega⟩
/-- a kind of a drawn program can be shown -/
theorem kt_nc {p : PT} {ss : List Str} (h : p.Ok ss) {k : KT} (hk : k ∈ p.kinds) : NcD k.data 6000 50 := by
  have hb := kt_body h hk
  have hf := kt_dep h hk
  have hr := (kt_room h hk).1
  have hl := kt_locs h hk
  have hv := vars_nc (xs := k.locs) fun x hx => ⟨(hl.1 x hx).1, h.sN _ (hl.1 x hx).2⟩
  have hn : sN k.nm := h.sN _ (h.sub.t _ (List.mem_map.mpr ⟨k, hk, rfl⟩))
  have h11 : depL k.body < 12 := hf.1
  have h3 := hl.2
  refine (NcL.tup (m := 40) (.cons (.str hn) (.cons (cnt_nc h hk) (.cons (hv.lst.mono (Nat.le_refl _) (by omega)) (.cons (hb.lst.mono (Nat.le_refl _) (by omega)) (.nil (c := 0))))))).mono ?_ (by omega)
  omega
/-! ### repr of data, and a law's call from outside all frames (there no guard is up) -/
section
variable {X : Cx}
def rRepr (K : PySem.W.Frag) : List V → Hp → VK → Prop := fun xs H Q => ∃ (a : Addr) (d : PyData), xs = [.ref a] ∧ Dp K H (.ref a) d ∧ d.showable = true ∧ d.hasDict = false ∧ d.depth ≤ 60 ∧ d.shown.length ≤ sizeLine ∧ Q (.str d.shown) H
theorem cRepr (K : PySem.W.Frag) (hg : X.A.guards = some []) (hu : X.A.units + 64 < cLine) (hK : X.K = K := by rfl) : CallR X (.builtin "repr") (rRepr K) := by
  subst hK
  rintro pins s σ H xs us Q I r ⟨a, d, rfl, hd, hs, hn, hp, hz, q⟩
  obtain ⟨u, rfl, ru⟩ := vals1 r
  cases ru
  obtain ⟨as, hr⟩ := Dp.reads I d _ _ hd rfl
  exact PySem.repr_of_reads' hr hs (fun z => by rw [hn] at z; cases z) hg (by omega) (fun _ _ e => e) (fun h' t tk kp => ⟨.str d.shown, H, I.kept kp, ⟨t, rfl⟩, q⟩) hz
end
/-- the law's def keeps sp where it is called with the script, from outside -/
def TopOk (P : Program) (w : World) (K : PySem.W.Frag) (mg : Str → Option Value) (base : Heap) (f : Addr) (sp : Sp) : Prop :=
  ∀ (s : Shared) (H : Hp) (a : Addr) (Q : VK), Env0 P w K mg base callerA [] s H → sp [.ref a] H Q E0 → codeAny (model P w) callerA (.call (.ref f) ⟨[.ref a], []⟩) (CR CX0 [] P w H s Q E0) s
theorem top_ok {P : Program} {w : World} {K : PySem.W.Frag} {mg : Str → Option Value} {base : Heap} {x : Str} {st : Stmt} {f : Addr} {fd : FuncData} {N : List Str} {k : Nat} {sp : Sp} (F : Fun K x x st f fd) (S : FnScope N ["script"] (defScope st)) (hroom : Room (k + 1) callerA)
    (bind : ∀ (s : Shared) (v : Value), BindsTo s fd ⟨[v], []⟩ [("script", v)])
    (body : ∀ (cdv : Value) (s : Shared) (H : Hp) (a : Addr) (Q : VK), Room k (callerA.deeper (envOfC x (defScope st) s.heap.objs.size f cdv)) → sp [.ref a] H Q E0 →
      ∃ t, PSs (cxOf CX0 P w K mg base N x (defScope st) f cdv callerA [] s H E0).nox (defBody st) t ∧ t { nx := fun _ H' => Q .non H', rt := Q } (start N [.ref a]) H) : TopOk P w K mg base f sp := by
  obtain ⟨c1, c2, c3, c4, c5, c6, cd, c8, c9, rfl, look, code⟩ := F.ex
  intro s H a Q env want
  have inS : K.In s.heap := PySem.W.Frag.In.keeps env.mod.kin (fun b o z => (env.bs b o z).1)
  have room := hroom.deeper (envOfC x (defScope st) s.heap.objs.size f cd)
  obtain ⟨t, good, read⟩ := body cd s H a Q room want
  refine codeAny_call_function (by decide) (inS f _ look) rfl S.co S.gen rfl (PySem.W.codeRec_of inS code) (bind s _ _ _ _ _ ?_)
  have names : ∀ y ∈ [(("script" : Str), Value.ref a)], (defScope st).names.lookup y.1 = some .local ∨ ((defScope st).names.lookup y.1 = some .cell ∧ ((cellsFrom (s.heap.objs.size + 1) (defScope st).names []).lookup y.1).isSome = true) := by
    intro y hy
    rw [List.mem_singleton.mp hy]
    exact (S.par "script" List.mem_cons_self).imp id fun z => ⟨z, PySem.W.cellsFrom_some _ _ _ (.inl z)⟩
  refine wpAny_newFunctionEnv_cells S.kind names ?_
  rintro _ rfl s1 made
  have few : s.heap.NoLimit := Heap.NoLimit.keeps env.mod.nolimit (fun b o z => (env.bs b o z).1)
  refine ⟨Heap.NoLimit.keeps few made.toInCall.keep, codeAny_func ?_⟩
  have inv := inv_start (CX := CX0) (vs := [V.ref a]) (us := [Value.ref a]) (E := E0) S hroom.hd env rfl (.cons rfl .nil) made
  refine wpAny_mono (good.nox.run [] s1 _ H _ inv read) ?_ (fun _ _ z => z)
  intro fl s2 out
  cases fl with
  | brk => exact False.elim out.choose_spec.choose_spec.2
  | cont => exact False.elim out.choose_spec.choose_spec.2
  | next =>
    obtain ⟨σ2, H2, inv2, q2⟩ := out
    exact ⟨.non, H2, inv2.os, inv2.bare, inv2.base, inv2.hok, rfl, q2⟩
  | ret u =>
    obtain ⟨v, σ2, H2, inv2, rel, q2⟩ := out
    exact ⟨v, H2, inv2.os, inv2.bare, inv2.base, inv2.hok, rel, q2⟩
/-- what the object of the script is taken for: the locked list, unless it is an object of the module -/
def hpOf (K : PySem.W.Frag) (a : Addr) (o : Obj) (ns : List Int) : Hp := fun b => if b = a ∧ K.lookup a = none then some (.frz o (.lst (ns.map V.int))) else none
theorem hp_none {K : PySem.W.Frag} {a b : Addr} {o : Obj} {ns : List Int} (h : b ≠ a) : hpOf K a o ns b = none := if_neg fun z => h z.1
theorem hp_ne {K : PySem.W.Frag} {a b : Addr} {o : Obj} {ns : List Int} {u : HO} (h : hpOf K a o ns b = some u) : b = a ∧ K.lookup a = none ∧ u = .frz o (.lst (ns.map V.int)) := by
  unfold hpOf at h
  split at h
  · rename_i c
    exact ⟨c.1, c.2, (Option.some.inj h).symm⟩
  · cases h
theorem ints_vals : ∀ {vs : List Value} {ns : List Int}, IntsAre vs ns → Vals (ns.map V.int) vs := fun h => vals_ints h
theorem top_call {P : Program} {w : World} {K : PySem.W.Frag} {mg mb : Str → Option Value} {fa a : Addr} {sp : Sp} {s1 : Shared} {vs : List Value} {ns : List Int} (KX : K.In s1.heap) (hns : s1.heap.Ns mainGlobals mg) (hb : s1.heap.Ns builtinsNs mb) (hbb : ∀ x : Str, x ≠ "__name__" → mb x = bootBuiltins x)
    (hlim : s1.heap.NoLimit) (hg : s1.gens = #[]) (ha : s1.heap.get? a = some { cls := .type "list", data := .seq vs.toArray }) (hi : IntsAre vs ns) (hl : ns.length ≤ sizeLine) (F : ∀ base : Heap, K.In base → base.Ns mainGlobals mg → TopOk P w K mg base fa sp)
    (hsp : ∀ H : Hp, SqL K H a (ns.map V.int) → sp [.ref a] H (fun v _ => v = .bl true) E0) :
    codeAny (model P w) callerA (.call (.ref fa) ⟨[.ref a], []⟩) (fun r s' => r = .ok (.ret (.bool true)) ∧ OldK s1.heap s'.heap ∧ s'.os = s1.os ∧ AllBare s'.gens) s1 := by
  have rel := vals_ints hi
  have size := hi.length
  generalize hob : ({ cls := .type "list", data := .seq vs.toArray } : Obj) = ob at ha
  generalize hH : hpOf K a ob ns = H
  have known : ∀ {b : Addr} {u : HO}, H b = some u → b = a ∧ K.lookup a = none ∧ u = .frz ob (.lst (ns.map V.int)) := fun z => hp_ne (hH ▸ z)
  have free : ∀ {b : Addr}, b ≠ a → H b = none := fun z => hH ▸ hp_none z
  -- what is a dict, or the module's own, is not hidden
  have dictFree : ∀ {b : Addr} {o : Obj} {es : Array DictEntry} {ep : Nat}, s1.heap.get? b = some o → o.data = .dict es ep → H b = none := by
    intro b o es ep e d
    refine free fun z => ?_
    rw [z, ha] at e
    cases e
    rw [← hob] at d
    cases d
  have kFree : ∀ {b : Addr} {o : Obj}, K.lookup b = some o → H b = none := by
    intro b o e
    cases h : H b with
    | none => rfl
    | some u =>
      obtain ⟨z1, z2, _⟩ := known h
      rw [z1, z2] at e
      cases e
  have seen : ∀ {b : Addr} {o : Obj}, s1.heap.get? b = some o → H b = none → (hidT s1.heap H).get? b = some o := fun e n => hidT_get e n
  have kIn : K.In (hidT s1.heap H) := fun b o e => seen (KX b o e) (kFree e)
  have spaces : ∀ {b : Addr} {m : Str → Option Value}, s1.heap.Ns b m → (hidT s1.heap H).Ns b m := by
    rintro b m ⟨o, es, ep, e, d, r⟩
    exact ⟨o, es, ep, seen e (dictFree e d), d, r⟩
  have limit : (hidT s1.heap H).NoLimit := by
    obtain ⟨mc, l1, l2⟩ := hlim
    exact ⟨mc, spaces l1, l2⟩
  have ok : HOk P w H s1.heap := by
    intro b u z
    obtain ⟨rfl, _, rfl⟩ := known z
    subst hob
    exact ⟨ha, by rw [List.length_map]; exact hl, vs, _, rel, ha⟩
  have script : SqL K H a (ns.map V.int) := by
    cases h : K.lookup a with
    | none => exact .inl (.inr ⟨ob, by rw [← hH]; exact if_pos ⟨rfl, h⟩⟩)
    | some o =>
      have e := KX a o h
      rw [ha] at e
      cases e
      subst hob
      exact .inr ⟨_, vs.toArray, _, h, rfl, rfl, rfl, by rw [List.size_toArray, size]; exact hl, by rw [List.toList_toArray]; exact rel⟩
  have env : Env0 P w K mg (hidT s1.heap H) callerA [] s1 H := {
    frames := rfl
    mod := ⟨kIn, spaces hns, ⟨mb, spaces hb, hbb⟩, limit⟩
    bs := fun _ _ z => of_hidT z
    bsz := Nat.le_of_eq (hidT_size _ _)
    funs := trivial
    frf := fun _ z => nomatch z
    hok := ok
    bare := .of_eq hg }
  refine codeAny_mono (F _ kIn (spaces hns) s1 H a _ env (hsp H script)) ?_
  intro r s2 out
  match r, out with
  | .error _, out => exact False.elim out
  | .ok .next, out => exact False.elim out
  | .ok .brk, out => exact False.elim out
  | .ok .cont, out => exact False.elim out
  | .ok (.ret u), ⟨v, H2, os, bare, un, ok2, ru, qv⟩ =>
    have qv' : v = .bl true := qv
    subst qv'
    have ru' : u = Value.bool true := ru
    subst ru'
    refine ⟨rfl, OldK.of_keep ?_, os, bare⟩
    intro b o e
    cases h : H b with
    | none => exact un.keep b o e h (fun z => nomatch z) (fun z => nomatch z)
    | some x =>
      obtain ⟨rfl, _, rfl⟩ := known h
      have later := (ok2 b _ (un.frzs b ob _ h)).1
      rw [ha] at e
      cases e
      exact later
theorem walk_top {l : PySem.W.OpenLaw} {n : Nat} {q : Program} {loose : List Str} {XP : (Str → Option Value) → Heap → Prop} {YP : World → Heap → Prop} {d : DefRec} {K : Params → PySem.W.Frag} {sp : World → Sp} (hn : l.most = some n) (hn2 : n ≤ sizeLine) (hdf : d.params.defaults = [])
    (hY : ∀ (w : World) (h : Heap), YP w h → (K w.params).In h)
    (F : ∀ (w : World) (mg : Str → Option Value) (fa : Addr) (h : Heap), (K w.params).In h → h.Ns mainGlobals mg → mg d.name = some (.ref fa) → ∀ base : Heap, (K w.params).In base → base.Ns mainGlobals mg → TopOk l.prog w (K w.params) mg base fa (sp w))
    (hsp : ∀ (w : World) (H : Hp) (a : Addr) (ns : List Int), ns.length ≤ n → SqL (K w.params) H a (ns.map V.int) → sp w [.ref a] H (fun v _ => v = .bl true) E0) :
    PySem.W.WalkO q loose XP YP l.row.toRowW d [] (fun f vs => PySem.call f vs) := by
  refine Att.attach_call hn hdf ?_
  intro w s0 s1 mg mb fa o pm cd doc a vs ns G Y ho hd hcd hmg hobj hints hlen hg
  exact top_call (hY w _ Y) G.T.g G.T.b G.T.builtins G.T.nolimit hg hobj hints (Nat.le_trans hlen hn2) (F w mg fa _ (hY w _ Y) G.T.g hmg) fun H hS => hsp w H a ns hlen hS
/-! ### the rows' data are nice too -/
theorem NcL.at {ds : List PyData} {c m : Nat} (h : NcL ds c m) {d : PyData} (hd : d ∈ ds) : NcD d c m := by
  induction ds generalizing c with
  | nil => cases hd
  | cons x r ih =>
    have h0 : nice x = true ∧ niceAll r = true := by simpa only [niceAll, Bool.and_eq_true] using h.ni
    have h1 : cells x + cellsAll r ≤ c := h.ce
    have h2 : max x.depth (PyData.depthAll r) ≤ m := h.de
    rcases List.mem_cons.mp hd with e | e
    · rw [e]; exact ⟨h0.1, by omega, by omega⟩
    · exact ih ⟨h0.2, by omega, by omega⟩ e
theorem NcD.unlst {ds : List PyData} {c m : Nat} (h : NcD (.list ds) c m) : NcL ds c m := by
  have h1 : cellsAll ds + 1 ≤ c := h.ce
  have h2 : PyData.depthAll ds + 1 ≤ m := h.de
  exact ⟨h.ni, by omega, by omega⟩
theorem NcD.untup {ds : List PyData} {c m : Nat} (h : NcD (.tuple ds) c m) : NcL ds c m := by
  have h1 : cellsAll ds + 1 ≤ c := h.ce
  have h2 : PyData.depthAll ds + 1 ≤ m := h.de
  exact ⟨h.ni, by omega, by omega⟩
mutual
theorem rws1_nc {c m : Nat} : ∀ (s : ST) (p f : Nat), NcD s.data c m → ∀ r ∈ rws1 s p f, NcD r.st.data c m
  | .iff co a b, p, f, h, r, hr => by
    have hl : NcL _ c m := h.untup
    simp only [rws1] at hr
    rcases List.mem_cons.mp hr with e | e
    · rw [e]; exact h
    · rcases List.mem_append.mp e with e | e
      · exact rwsL_nc a _ _ (NcD.unlst (hl.at (d := .list (datas a)) (by simp))) r e
      · exact rwsL_nc b _ _ (NcD.unlst (hl.at (d := .list (datas b)) (by simp))) r e
  | .loop co a, p, f, h, r, hr => by
    have hl : NcL _ c m := h.untup
    simp only [rws1] at hr
    rcases List.mem_cons.mp hr with e | e
    · rw [e]; exact h
    · exact rwsL_nc a _ _ (NcD.unlst (hl.at (d := .list (datas a)) (by simp))) r e
  | .choose bs, p, f, h, r, hr => by
    have hl : NcL _ c m := h.untup
    simp only [rws1] at hr
    rcases List.mem_cons.mp hr with e | e
    · rw [e]; exact h
    · exact rwsLL_nc bs _ _ (NcD.unlst (hl.at (d := .list (datass bs)) (by simp))) r e
  | .skip, _, _, h, r, hr | .set _ _, _, _, h, r, hr | .acq _, _, _, h, r, hr | .rel _, _, _, h, r, hr | .rest _, _, _, h, r, hr | .wake _, _, _, h, r, hr | .start _, _, _, h, r, hr | .chk _, _, _, h, r, hr | .awt _, _, _, h, r, hr | .mark _, _, _, h, r, hr => by
    rw [List.mem_singleton.mp hr]; exact h
theorem rwsL_nc {c m : Nat} : ∀ (ss : List ST) (p l : Nat), NcL (datas ss) c m → ∀ r ∈ rwsL ss p l, NcD r.st.data c m
  | [], _, _, _, r, hr => by cases hr
  | s :: t, p, l, h, r, hr => by
    simp only [rwsL] at hr
    rcases List.mem_append.mp hr with e | e
    · exact rws1_nc s _ _ (h.at (d := s.data) (by show s.data ∈ s.data :: datas t; exact List.mem_cons_self)) r e
    · have h0 : nice s.data = true ∧ niceAll (datas t) = true := by
        have h9 : (nice s.data && niceAll (datas t)) = true := h.ni
        simpa only [Bool.and_eq_true] using h9
      have h1 : cells s.data + cellsAll (datas t) ≤ c := h.ce
      have h2 : max s.data.depth (PyData.depthAll (datas t)) ≤ m := h.de
      exact rwsL_nc t _ _ ⟨h0.2, by omega, by omega⟩ r e
theorem rwsLL_nc {c m : Nat} : ∀ (bs : List (List ST)) (p k : Nat), NcL (datass bs) c m → ∀ r ∈ rwsLL bs p k, NcD r.st.data c m
  | [], _, _, _, r, hr => by cases hr
  | b :: t, p, k, h, r, hr => by
    simp only [rwsLL] at hr
    rcases List.mem_append.mp hr with e | e
    · exact rwsL_nc b _ _ (NcD.unlst (h.at (d := .list (datas b)) (by show PyData.list (datas b) ∈ _ :: datass t; exact List.mem_cons_self))) r e
    · have h0 : nice (.list (datas b)) = true ∧ niceAll (datass t) = true := by
        have h9 : (nice (.list (datas b)) && niceAll (datass t)) = true := h.ni
        simpa only [Bool.and_eq_true] using h9
      have h1 : cells (.list (datas b)) + cellsAll (datass t) ≤ c := h.ce
      have h2 : max (PyData.list (datas b)).depth (PyData.depthAll (datass t)) ≤ m := h.de
      exact rwsLL_nc t _ _ ⟨h0.2, by omega, by omega⟩ r e
end
theorem nxt_le {r : List ST} {q l b : Nat} (h1 : q ≤ b) (h2 : l ≤ b) : nxt r q l ≤ b := by unfold nxt; split <;> omega
theorem bck_le {s : ST} {p f b : Nat} (h1 : p ≤ b) (h2 : f ≤ b) : bck s p f ≤ b := by unfold bck; split <;> omega
mutual
theorem rws1_le {b : Nat} : ∀ (s : ST) (p f : Nat), p + tot1 s ≤ b → f ≤ b → ∀ r ∈ rws1 s p f, r.pt < p + tot1 s ∧ r.fo ≤ b
  | .iff co x y, p, f, h, hf, r, hr => by
    have h' : p + (1 + (totL x + totL y)) ≤ b := h
    show r.pt < p + (1 + (totL x + totL y)) ∧ _
    simp only [rws1] at hr
    rcases List.mem_cons.mp hr with e | e
    · rw [e]; exact ⟨by show p < _; omega, hf⟩
    · rcases List.mem_append.mp e with e | e
      · have := rwsL_le (b := b) x _ _ (by omega) hf r e
        exact ⟨by omega, this.2⟩
      · have := rwsL_le (b := b) y _ _ (by omega) hf r e
        exact ⟨by omega, this.2⟩
  | .loop co x, p, f, h, hf, r, hr => by
    have h' : p + (1 + totL x) ≤ b := h
    show r.pt < p + (1 + totL x) ∧ _
    simp only [rws1] at hr
    rcases List.mem_cons.mp hr with e | e
    · rw [e]; exact ⟨by show p < _; omega, hf⟩
    · have := rwsL_le (b := b) x _ _ (by omega) (by omega) r e
      exact ⟨by omega, this.2⟩
  | .choose bs, p, f, h, hf, r, hr => by
    have h' : p + (1 + totLL bs) ≤ b := h
    show r.pt < p + (1 + totLL bs) ∧ _
    simp only [rws1] at hr
    rcases List.mem_cons.mp hr with e | e
    · rw [e]; exact ⟨by show p < _; omega, hf⟩
    · have := rwsLL_le (b := b) bs _ _ (by omega) hf r e
      exact ⟨by omega, this.2⟩
  | .skip, p, _, h, hf, r, hr | .set _ _, p, _, h, hf, r, hr | .acq _, p, _, h, hf, r, hr | .rel _, p, _, h, hf, r, hr | .rest _, p, _, h, hf, r, hr | .wake _, p, _, h, hf, r, hr | .start _, p, _, h, hf, r, hr | .chk _, p, _, h, hf, r, hr | .awt _, p, _, h, hf, r, hr | .mark _, p, _, h, hf, r, hr => by
    rw [List.mem_singleton.mp hr]; exact ⟨by show p < p + 1; omega, hf⟩
theorem rwsL_le {b : Nat} : ∀ (ss : List ST) (p l : Nat), p + totL ss ≤ b → l ≤ b → ∀ r ∈ rwsL ss p l, r.pt < p + totL ss ∧ r.fo ≤ b
  | [], _, _, _, _, r, hr => by cases hr
  | s :: t, p, l, h, hl, r, hr => by
    have h' : p + (tot1 s + totL t) ≤ b := h
    show r.pt < p + (tot1 s + totL t) ∧ _
    simp only [rwsL] at hr
    rcases List.mem_append.mp hr with e | e
    · have := rws1_le (b := b) s _ _ (by omega) (nxt_le (by omega) hl) r e
      exact ⟨by omega, this.2⟩
    · have := rwsL_le (b := b) t _ _ (by omega) hl r e
      exact ⟨by omega, this.2⟩
theorem rwsLL_le {b : Nat} : ∀ (bs : List (List ST)) (p k : Nat), p + totLL bs ≤ b → k ≤ b → ∀ r ∈ rwsLL bs p k, r.pt < p + totLL bs ∧ r.fo ≤ b
  | [], _, _, _, _, r, hr => by cases hr
  | x :: t, p, k, h, hk, r, hr => by
    have h' : p + (totL x + totLL t) ≤ b := h
    show r.pt < p + (totL x + totLL t) ∧ _
    simp only [rwsLL] at hr
    rcases List.mem_append.mp hr with e | e
    · have := rwsL_le (b := b) x _ _ (by omega) hk r e
      exact ⟨by omega, this.2⟩
    · have := rwsLL_le (b := b) t _ _ (by omega) hk r e
      exact ⟨by omega, this.2⟩
end
theorem natD_nc {n m : Nat} (h : n < 10 ^ 7) : NcD (natD n) 1 m := .int (by omega)
/-- the rows of a kind of a drawn program -/
theorem kt_rows {p : PT} {ss : List Str} (h : p.Ok ss) {k : KT} (hk : k ∈ p.kinds) : ∀ r ∈ k.rows, NcD r.st.data 6000 40 ∧ r.pt < totL k.body ∧ r.fo ≤ totL k.body := fun r hr => by
  have hf := kt_dep h hk
  have hro := (kt_room h hk).1
  have hb : NcL (datas k.body) (60 * totL k.body) (3 * depL k.body + 6) := kt_body h hk
  have h11 : depL k.body < 12 := hf.1
  have h1 := rwsL_nc k.body 0 (totL k.body) (hb.mono (c' := 6000) (m' := 40) (by omega) (by omega)) r hr
  have h2 := rwsL_le (b := totL k.body) k.body 0 (totL k.body) (by omega) (Nat.le_refl _) r hr
  exact ⟨h1, by omega, h2.2⟩
theorem rests_nc {c m : Nat} : ∀ (rs : List Rw) (q : Nat), (∀ r ∈ rs, NcD r.st.data c m ∧ r.fo < 1000) → q + rs.length < 10 ^ 6 → NcL ((rstsR q rs).map restD) (4 * rs.length) 1
  | [], _, _, _ => .nil
  | ⟨p, s, f⟩ :: t, q, h, hq => by
    rw [List.length_cons] at hq ⊢
    by_cases hw : s.word = Str.ofString "rest"
    · obtain ⟨b, rfl⟩ := word_rest hw
      rw [rstsR_rest, List.map_cons]
      have h1 := h ⟨p, .rest b, f⟩ List.mem_cons_self
      have hb : NcD (.str b) c m := NcL.at h1.1.untup (d := .str b) (by show PyData.str b ∈ [_, PyData.str b]; simp)
      have hf : f < 1000 := h1.2
      have ih := rests_nc t (q + 1) (fun r hr => h r (List.mem_cons_of_mem _ hr)) (by omega)
      exact (NcL.cons (NcL.tup (m := 0) (.cons (.str hb.ni) (.cons (natD_nc (by show q < 10 ^ 7; omega)) (.cons (natD_nc (by show f < 10 ^ 7; omega)) (.nil (c := 0)))))) ih).mono (by omega) (Nat.le_refl _)
    · rw [rstsR_else (r := ⟨p, s, f⟩) hw]
      exact (rests_nc t q (fun r hr => h r (List.mem_cons_of_mem _ hr)) (by omega)).mono (by omega) (Nat.le_refl _)
theorem kt_rests {p : PT} {ss : List Str} (h : p.Ok ss) {k : KT} (hk : k ∈ p.kinds) : NcL (k.rests.map restD) 400 1 ∧ k.rests.length ≤ 96 := by
  have hro := (kt_room h hk).1
  have hl : k.rows.length = totL k.body := rwsL_len _ _ _
  have h2 : k.rests.length ≤ k.rows.length := rstsR_len _ _
  refine ⟨(rests_nc k.rows (totL k.body + 1) (c := 6000) (m := 40) (fun r hr => ?_) (by omega)).mono (by omega) (Nat.le_refl _), by omega⟩
  have := kt_rows h hk r hr
  exact ⟨this.1, by omega⟩
theorem szl6 {n : Nat} (h : n < 1000000) : n < sizeLine := Nat.lt_of_lt_of_le h (by decide)
theorem sz6 {n : Nat} (h : n ≤ 1000000) : n ≤ sizeLine := Nat.le_trans h (by decide)
/-- what is new and not at S -/
def Hv (V0 H : Hp) (S : Addr) (H' : Hp) : Hp := Vw V0 (upd H S (.lst [])) H'
theorem hv_in {V0 H H1 H2 : Hp} {S : Addr} (n : H1 S = none) (sm : Same H H1) (s : Same H1 H2) : Same (Vw V0 H H1) (Hv V0 H S H2) := fun a o h => by
  unfold Hv
  have nS : H S = none := sm.free n
  cases e : H a with
  | none =>
    rw [vw_at e] at h
    have ha : a ≠ S := fun z => by rw [z, n] at h; cases h
    rw [vw_at (by rw [upd_ne ha]; exact e)]
    exact s _ _ h
  | some x =>
    rw [vw_old e] at h
    have ha : a ≠ S := fun z => by rw [z, nS] at e; cases e
    rw [vw_old (o := x) (by rw [upd_ne ha]; exact e)]
    exact h
theorem hv_to {V0 H H2 H3 : Hp} {S : Addr} (t : Same H2 H3) : Same (Hv V0 H S H2) (Hv V0 H S H3) := vw_to t
theorem hv_upd {V0 H H' : Hp} {S : Addr} {u : HO} : Same (Hv V0 H S H') (Hv V0 H S (upd H' S u)) := vw_upd upd_same
theorem hv_new {V0 H H' Hn : Hp} {S T : Addr} {o : HO} (sm : Same H H') (e : H' S = some o) (nT : H' T = none) : Hv V0 H S Hn T = Hn T := by
  have hne : T ≠ S := fun z => by rw [z, e] at nT; cases nT
  exact vw_at (by rw [upd_ne hne]; exact sm.free nT)
theorem hv_same {V0 H H' : Hp} {S : Addr} (s : Same V0 H') : Same (Hv V0 H S H') H' := vw_same s
theorem hv_hole {V0 H H' H'' : Hp} {S S' : Addr} (n1 : V0 S = none) (n2 : H' S' = none) (n3 : H S' = none) (s : Same H' H'') : Same (Hv V0 H S H') (Hv V0 H S' H'') := fun a o h => by
  unfold Hv at h ⊢
  have ha : a ≠ S := fun z => by rw [z, vw_old (o := .lst []) upd_same, n1] at h; cases h
  cases e : H a with
  | none =>
    rw [vw_at (by rw [upd_ne ha]; exact e)] at h
    have ha' : a ≠ S' := fun z => by rw [z, n2] at h; cases h
    rw [vw_at (by rw [upd_ne ha']; exact e)]
    exact s _ _ h
  | some x =>
    rw [vw_old (o := x) (by rw [upd_ne ha]; exact e)] at h
    have ha' : a ≠ S' := fun z => by rw [z, n3] at e; cases e
    rw [vw_old (o := x) (by rw [upd_ne ha']; exact e)]
    exact h
theorem hv_out {V0 H H' : Hp} {S : Addr} (sV : Same V0 H) (n : H S = none) : Same (Hv V0 H S H') (Vw V0 H H') := vw_mono sV (Same.dm (same_new (o := .lst []) n)) (Same.refl _)
theorem dm_hole {H H' : Hp} {S : Addr} {o u : HO} (s : Same H H') (e : H' S = some o) : Dm (upd H S u) H' := fun a h => by
  by_cases z : a = S
  · rw [z, e] at h; cases h
  · rw [upd_ne z]; exact s.free h
/-! ### what holds of all statements within -/
mutual
def al1 (P : ST → Prop) : ST → Prop
  | .iff c a b => P (.iff c a b) ∧ alL P a ∧ alL P b
  | .loop c a => P (.loop c a) ∧ alL P a
  | .choose bs => P (.choose bs) ∧ alLL P bs
  | s => P s
def alL (P : ST → Prop) : List ST → Prop
  | [] => True
  | s :: r => al1 P s ∧ alL P r
def alLL (P : ST → Prop) : List (List ST) → Prop
  | [] => True
  | b :: r => alL P b ∧ alLL P r
end
theorem al1_here {P : ST → Prop} : ∀ {s : ST}, al1 P s → P s
  | .iff _ _ _, h => h.1
  | .loop _ _, h => h.1
  | .choose _, h => h.1
  | .skip, h | .set _ _, h | .acq _, h | .rel _, h | .rest _, h | .wake _, h | .start _, h | .chk _, h | .awt _, h | .mark _, h => h
theorem alL_of {P : ST → Prop} : ∀ {ss : List ST}, (∀ s ∈ ss, al1 P s) → alL P ss
  | [], _ => trivial
  | s :: _, h => ⟨h s List.mem_cons_self, alL_of fun x hx => h x (List.mem_cons_of_mem _ hx)⟩
theorem alLL_of {P : ST → Prop} : ∀ {bs : List (List ST)}, (∀ b ∈ bs, alL P b) → alLL P bs
  | [], _ => trivial
  | b :: _, h => ⟨h b List.mem_cons_self, alLL_of fun x hx => h x (List.mem_cons_of_mem _ hx)⟩
theorem alL_mem {P : ST → Prop} : ∀ {ss : List ST}, alL P ss → ∀ s ∈ ss, al1 P s
  | [], _, _, h => by cases h
  | x :: r, h, s, hs => by
    rcases List.mem_cons.mp hs with e | e
    · rw [e]; exact h.1
    · exact alL_mem h.2 s e
theorem alLL_mem {P : ST → Prop} : ∀ {bs : List (List ST)}, alLL P bs → ∀ b ∈ bs, alL P b
  | [], _, _, h => by cases h
  | x :: r, h, s, hs => by
    rcases List.mem_cons.mp hs with e | e
    · rw [e]; exact h.1
    · exact alLL_mem h.2 s e
mutual
theorem rws1_al {P : ST → Prop} : ∀ (s : ST) (p f : Nat), al1 P s → ∀ r ∈ rws1 s p f, P r.st
  | .iff co a b, p, f, h, r, hr => by
    simp only [rws1] at hr
    rcases List.mem_cons.mp hr with e | e
    · rw [e]; exact h.1
    · rcases List.mem_append.mp e with e | e
      · exact rwsL_al a _ _ h.2.1 r e
      · exact rwsL_al b _ _ h.2.2 r e
  | .loop co a, p, f, h, r, hr => by
    simp only [rws1] at hr
    rcases List.mem_cons.mp hr with e | e
    · rw [e]; exact h.1
    · exact rwsL_al a _ _ h.2 r e
  | .choose bs, p, f, h, r, hr => by
    simp only [rws1] at hr
    rcases List.mem_cons.mp hr with e | e
    · rw [e]; exact h.1
    · exact rwsLL_al bs _ _ h.2 r e
  | .skip, _, _, h, r, hr | .set _ _, _, _, h, r, hr | .acq _, _, _, h, r, hr | .rel _, _, _, h, r, hr | .rest _, _, _, h, r, hr | .wake _, _, _, h, r, hr | .start _, _, _, h, r, hr | .chk _, _, _, h, r, hr | .awt _, _, _, h, r, hr | .mark _, _, _, h, r, hr => by
    rw [List.mem_singleton.mp hr]; exact h
theorem rwsL_al {P : ST → Prop} : ∀ (ss : List ST) (p l : Nat), alL P ss → ∀ r ∈ rwsL ss p l, P r.st
  | [], _, _, _, r, hr => by cases hr
  | s :: t, p, l, h, r, hr => by
    simp only [rwsL] at hr
    rcases List.mem_append.mp hr with e | e
    · exact rws1_al s _ _ h.1 r e
    · exact rwsL_al t _ _ h.2 r e
theorem rwsLL_al {P : ST → Prop} : ∀ (bs : List (List ST)) (p k : Nat), alLL P bs → ∀ r ∈ rwsLL bs p k, P r.st
  | [], _, _, _, r, hr => by cases hr
  | b :: t, p, k, h, r, hr => by
    simp only [rwsLL] at hr
    rcases List.mem_append.mp hr with e | e
    · exact rwsL_al b _ _ h.1 r e
    · exact rwsLL_al t _ _ h.2 r e
end
mutual
theorem al1_dep {n : Nat} : ∀ {s : ST}, dep1 s < n → sht1 s → al1 (fun s => dep1 s < n ∧ sht1 s) s
  | .iff c a b, h, hs => by
    have h' : max (depL a) (depL b) + 1 < n := h
    exact ⟨⟨h, hs⟩, alL_dep (by omega) hs.1, alL_dep (by omega) hs.2⟩
  | .loop c a, h, hs => by
    have h' : depL a + 1 < n := h
    exact ⟨⟨h, hs⟩, alL_dep (by omega) hs⟩
  | .choose bs, h, hs => by
    have h' : depLL bs + 1 < n := h
    exact ⟨⟨h, hs⟩, alLL_dep (by omega) hs.2⟩
  | .skip, h, hs | .set _ _, h, hs | .acq _, h, hs | .rel _, h, hs | .rest _, h, hs | .wake _, h, hs | .start _, h, hs | .chk _, h, hs | .awt _, h, hs | .mark _, h, hs => ⟨h, hs⟩
theorem alL_dep {n : Nat} : ∀ {ss : List ST}, depL ss < n → shtL ss → alL (fun s => dep1 s < n ∧ sht1 s) ss
  | [], _, _ => trivial
  | s :: r, h, hs => by
    have h' : max (dep1 s) (depL r) < n := h
    exact ⟨al1_dep (by omega) hs.1, alL_dep (by omega) hs.2.2⟩
theorem alLL_dep {n : Nat} : ∀ {bs : List (List ST)}, depLL bs < n → shtLL bs → alLL (fun s => dep1 s < n ∧ sht1 s) bs
  | [], _, _ => trivial
  | b :: r, h, hs => by
    have h' : max (depL b) (depLL r) < n := h
    exact ⟨alL_dep (by omega) hs.1, alLL_dep (by omega) hs.2⟩
end
/-- what a drawn body keeps -/
structure PAll (e : GE) (P : ST → Prop) : Prop where
  ls : ∀ l ∈ e.locks, P (.acq l) ∧ P (.rel l)
  gs : ∀ {h : List Str} {d : Nat} {s : ST}, GS e h d s → P s
  w1 : ∀ b : List ST, P (.iff (.bl true) b [])
  w2 : ∀ b : List ST, P (.choose [[], b])
  w3 : ∀ b : List ST, P (.loop (.bl false) b)
  w4 : ∀ b : List ST, P (.iff (.bl false) [] b)
  sk : P .skip
theorem gs_al {e : GE} {P : ST → Prop} (hP : PAll e P) : ∀ (d : Nat) {h : List Str} {s : ST}, GS e h d s → al1 P s
  | d, h, s, g => by
    have body : ∀ {d' : Nat} {h' : List Str} {b : List ST}, d' < d → GB e h' d' b → alL P b := fun hd gb =>
      alL_of fun s hs => by
        rcases gb_mem2 gb s hs with ⟨l, hl, e | e⟩ | ⟨h'', g'⟩
        · rw [e]; exact (hP.ls l hl).1
        · rw [e]; exact (hP.ls l hl).2
        · exact gs_al hP _ g'
    have here := hP.gs g
    cases g with
    | iff hc ha hb la lb => exact ⟨here, body (Nat.lt_succ_self _) ha, body (Nat.lt_succ_self _) hb⟩
    | loop hc ha la => exact ⟨here, body (Nat.lt_succ_self _) ha⟩
    | choose hn hl hb lb => exact ⟨here, alLL_of fun b hm => body (Nat.lt_succ_self _) (hb b hm)⟩
    | _ => exact here
theorem gb_al {e : GE} {P : ST → Prop} (hP : PAll e P) {h : List Str} {d : Nat} {ss : List ST} (g : GB e h d ss) : alL P ss :=
  alL_of fun s hs => by
    rcases gb_mem2 g s hs with ⟨l, hl, e | e⟩ | ⟨h'', g'⟩
    · rw [e]; exact (hP.ls l hl).1
    · rw [e]; exact (hP.ls l hl).2
    · exact gs_al hP _ g'
theorem gk_al {e : GE} {P : ST → Prop} (hP : PAll e P) : ∀ {n : Nat} {b : List ST}, GK e n b → alL P b
  | _, _, .base g _ => gb_al hP g
  | _, _, .wif g => ⟨⟨hP.w1 _, gk_al hP g, trivial⟩, trivial⟩
  | _, _, .wch g => ⟨⟨hP.w2 _, trivial, gk_al hP g, trivial⟩, trivial⟩
  | _, _, .wlp g => ⟨⟨hP.w3 _, gk_al hP g⟩, trivial⟩
  | _, _, .wfi g => ⟨hP.sk, ⟨hP.w4 _, trivial, gk_al hP g⟩, trivial⟩
theorem kt_al {p : PT} {ss : List Str} (h : p.Ok ss) {k : KT} (hk : k ∈ p.kinds) {P : ST → Prop} (hP : ∀ e : GE, e.Nc → PAll e P) (hm : ∀ m, sN m → P (.mark m)) : alL P k.body := by
  obtain ⟨c, b, _, _, kk⟩ := h.kd
  obtain ⟨j, hj⟩ := List.mem_iff_getElem?.mp hk
  rcases (kk j k hj).ok with ⟨_, m, hmm, h2⟩ | ⟨o0, o1, o2, ho, ok⟩
  · rw [h2]
    exact ⟨(hP _ h.geNc).sk, hm m (h.sN m (List.mem_of_getElem? hmm)), trivial⟩
  · obtain ⟨n, _, g⟩ := ok.bod
    refine gk_al (hP ((p.ge ss).more k.locs) ⟨fun s hs => ?_, h.geNc.l, h.geNc.b, h.geNc.t, h.geNc.n⟩) g
    rcases List.mem_append.mp hs with m | m
    · exact h.geNc.v s m
    · obtain ⟨x, hx, rfl⟩ := List.mem_map.mp m
      exact h.sN _ ((kt_locs h hk).1 x hx).2
theorem fit_rows {ss : List ST} (h1 : depL ss < 12) (h2 : shtL ss) {p l : Nat} : ∀ r ∈ rwsL ss p l, (dep1 r.st < 12 ∧ sht1 r.st) ∧ r.ents.length ≤ 6 := fun r hr => by
  have := rwsL_al ss p l (alL_dep h1 h2) r hr
  refine ⟨this, ?_⟩
  rw [show r.ents.length = r.st.parts.length from entsLL_len _ _ _]
  exact (sht_parts this.2).1
/-! ### statements without their bodies are nice -/
def fl1 : ST → Prop
  | .iff c _ _ => NcD c.data 46 4
  | .loop c _ => NcD c.data 46 4
  | .chk c => NcD c.data 46 4
  | .awt c => NcD c.data 46 4
  | .choose _ => True
  | s => NcD s.data 60 6
theorem fl_ge (e : GE) (he : e.Nc) : PAll e fl1 where
  ls := fun l hl => ls_nc (he.l l hl)
  gs := fun {h d s} g => by
    cases g with
    | iff hc _ _ _ _ => exact ct_nc he.v hc
    | loop hc _ _ => exact ct_nc he.v hc
    | chk hc => exact ct_nc he.v hc
    | awt hc => exact ct_nc he.v hc
    | choose _ _ _ _ => trivial
    | skip => exact gs_nc he 0 (h := []) .skip
    | set h1 h2 => exact gs_nc he 0 (h := []) (.set h1 h2)
    | rest h1 => exact gs_nc he 0 (h := []) (.rest h1)
    | wake h1 => exact gs_nc he 0 (h := []) (.wake h1)
    | start h1 => exact gs_nc he 0 (h := []) (.start h1)
    | mark h1 => exact gs_nc he 0 (h := []) (.mark h1)
  w1 := fun b => bl_nc _
  w2 := fun b => trivial
  w3 := fun b => bl_nc _
  w4 := fun b => bl_nc _
  sk := skip_nc
theorem kt_fl {p : PT} {ss : List Str} (h : p.Ok ss) {k : KT} (hk : k ∈ p.kinds) : ∀ r ∈ k.rows, fl1 r.st :=
  rwsL_al k.body 0 (totL k.body) (kt_al h hk fl_ge fun m hm => mark_nc hm)
def strsD (ss : List Str) : PyData := .list (ss.map PyData.str)
theorem strs_lay : ∀ {ss : List Str}, (∀ s ∈ ss, ∀ c ∈ s.cps.toList, c < 0x110000) → PyData.canLayAll0 (ss.map PyData.str) = true ∧ PyData.depthAll (ss.map PyData.str) = 0
  | [], _ => ⟨rfl, rfl⟩
  | s :: r, h => by
    obtain ⟨h1, h2⟩ := strs_lay fun x hx => h x (List.mem_cons_of_mem s hx)
    refine ⟨?_, ?_⟩
    · show (PyData.canLay0 (.str s) && PyData.canLayAll0 (r.map PyData.str)) = true
      rw [h1, Bool.and_true]
      show (s.cps.all fun c => decide (c < 0x110000)) = true
      rw [← Array.all_toList, List.all_eq_true]
      exact fun c hc => decide_eq_true (h s List.mem_cons_self c hc)
    · show max 0 (PyData.depthAll (r.map PyData.str)) = 0
      rw [h2]; rfl
/-! ### phrases -/
section
variable {X : Cx}
theorem call_str_both : CallR X (.type "str") (fun xs H Q => (∃ i, xs = [.int i] ∧ i.natAbs.log2 < 1920 ∧ Q (.str (toString i)) H) ∨ ∃ a, xs = [.str a] ∧ Q (.str a) H) := by
  intro pins s σ H xs us Q I r h
  rcases h with ⟨i, rfl, hz, q⟩ | ⟨a, rfl, q⟩
  · obtain ⟨u, rfl, t, rfl⟩ := vals1 r
    exact PySem.P.str_of_int hz ⟨.str _, H, I.tok _, ⟨_, rfl⟩, q⟩
  · obtain ⟨u, rfl, t, rfl⟩ := vals1 r
    exact PySem.P.str_of_str ⟨.str a, H, I, ⟨t, rfl⟩, q⟩
end
def sp1 : Str := Str.ofString " "
mutual
def phr : PyData → Str
  | .bool b => if b then Str.ofString "true" else Str.ofString "false"
  | .int i => Str.ofString (toString i)
  | .str s => s
  | .tuple ds => Txt.join sp1 (phrs ds)
  | _ => Str.ofString ""
def phrs : List PyData → List Str
  | [] => []
  | d :: r => phr d :: phrs r
end
theorem phrs_map : ∀ ds : List PyData, phrs ds = ds.map phr
  | [] => rfl
  | d :: r => by
    show phr d :: phrs r = phr d :: r.map phr
    rw [phrs_map r]
mutual
/-- bools, numbers, texts and tuples of such; a tuple begins with a text -/
def phOk : PyData → Bool
  | .bool _ | .int _ | .str _ => true
  | .tuple ds => hdStr ds && phOks ds
  | _ => false
def phOks : List PyData → Bool
  | [] => true
  | d :: r => phOk d && phOks r
def hdStr : List PyData → Bool
  | .str _ :: _ => true
  | _ => false
end
theorem phOks_mem : ∀ {ds : List PyData}, phOks ds = true → ∀ d ∈ ds, phOk d = true
  | [], _, _, h => by cases h
  | x :: r, hs, d, h => by
    have h' : phOk x = true ∧ phOks r = true := by simpa only [phOks, Bool.and_eq_true] using hs
    rcases List.mem_cons.mp h with e | e
    · rw [e]; exact h'.1
    · exact phOks_mem h'.2 d e
theorem niceAll_mem : ∀ {ds : List PyData}, niceAll ds = true → ∀ d ∈ ds, nice d = true
  | [], _, _, h => by cases h
  | x :: r, hs, d, h => by
    have h' : nice x = true ∧ niceAll r = true := by simpa only [niceAll, Bool.and_eq_true] using hs
    rcases List.mem_cons.mp h with e | e
    · rw [e]; exact h'.1
    · exact niceAll_mem h'.2 d e
theorem depth_mem : ∀ {ds : List PyData}, ∀ d ∈ ds, d.depth ≤ PyData.depthAll ds
  | [], _, h => by cases h
  | x :: r, d, h => by
    show d.depth ≤ max x.depth (PyData.depthAll r)
    rcases List.mem_cons.mp h with e | e
    · rw [e]; omega
    · have := depth_mem (ds := r) d e; omega
theorem cells_mem : ∀ {ds : List PyData}, ∀ d ∈ ds, cells d ≤ cellsAll ds
  | [], _, h => by cases h
  | x :: r, d, h => by
    show cells d ≤ cells x + cellsAll r
    rcases List.mem_cons.mp h with e | e
    · rw [e]; omega
    · have := cells_mem (ds := r) d e; omega
theorem join_len (ys : List Str) : (Txt.join sp1 ys).length ≤ (ys.map (·.length)).sum + ys.length := by
  have e2 := TL.tl_join sp1 ys
  rw [← TL.join_eq, show TL.tl sp1 = [32] by decide +kernel] at e2
  have e3 : (Txt.join sp1 ys).length = (TL.joinL [32] (ys.map TL.tl)).length := by
    rw [← e2]
    exact Array.length_toList.symm
  rw [e3]
  clear e2 e3
  induction ys with
  | nil => exact Nat.zero_le _
  | cons p r ih =>
    have hp : (TL.tl p).length = p.length := Array.length_toList
    cases r with
    | nil =>
      show (TL.tl p).length ≤ _
      rw [hp, List.map_cons, List.sum_cons]
      omega
    | cons q r =>
      show (TL.tl p ++ ([32] ++ TL.joinL [32] ((q :: r).map TL.tl))).length ≤ _
      rw [List.length_append, List.length_append, hp]
      simp only [List.map_cons, List.sum_cons, List.length_cons, List.length_nil] at ih ⊢
      omega
mutual
theorem phr_len : ∀ d : PyData, nice d = true → (phr d).length + 1 ≤ 22 * cells d
  | .bool b, _ => by
    show (if b then Str.ofString "true" else Str.ofString "false").length + 1 ≤ 22 * 1
    cases b <;> decide
  | .int i, h => by
    have h1 : i.natAbs < 10 ^ 7 := by simpa only [nice, decide_eq_true_eq] using h
    show (Str.ofString (toString i)).length + 1 ≤ 22 * 1
    have := int_text_length_le10 (a := i) (k := 7) (by decide) h1
    rw [PySem.ofString_length]
    omega
  | .str s, h => by
    simp only [nice, Bool.and_eq_true, List.all_eq_true, decide_eq_true_eq] at h
    show s.length + 1 ≤ 22 * 1
    omega
  | .tuple ds, h => by
    have h1 := phrs_len ds h
    have h2 := join_len (phrs ds)
    show (Txt.join sp1 (phrs ds)).length + 1 ≤ 22 * (cellsAll ds + 1)
    omega
  | .none, _ => by show (Str.ofString "").length + 1 ≤ 22 * 1; decide
  | .list ds, _ => by show (Str.ofString "").length + 1 ≤ 22 * (cellsAll ds + 1); have : (Str.ofString "").length = 0 := by decide +kernel
                      omega
  | .dict _, h => nomatch h
theorem phrs_len : ∀ ds : List PyData, niceAll ds = true → ((phrs ds).map (·.length)).sum + (phrs ds).length ≤ 22 * cellsAll ds
  | [], _ => Nat.le_refl _
  | d :: r, h => by
    have h' : nice d = true ∧ niceAll r = true := by simpa only [niceAll, Bool.and_eq_true] using h
    have h1 := phr_len d h'.1
    have h2 := phrs_len r h'.2
    show ((phr d).length + ((phrs r).map (·.length)).sum) + ((phrs r).length + 1) ≤ 22 * (cells d + cellsAll r)
    omega
end
theorem int_log {i : Int} (h : nice (.int i) = true) : i.natAbs.log2 < 1920 := of_decide_eq_true (nice_short (.int i) h).2
section
variable {P : Program} {w : World} {K : PySem.W.Frag} {mg : Str → Option Value} {base : Heap}
def spPhr (K : PySem.W.Frag) (n : Nat) : Sp := fun vs H Q _ => ∃ (v : V) (d : PyData), vs = [v] ∧ Dp K H v d ∧ phOk d = true ∧ nice d = true ∧ d.depth < n ∧ cells d ≤ 40000 ∧ ∀ H', Same H H' → Q (.str (phr d)) H'
theorem tyx_tup {K : PySem.W.Frag} {H : Hp} {a : Addr} {xs : List V} (h : SqT K H a xs) : TyX K H (.ref a) (.type "tuple") := by
  rcases h with (h | ⟨o, h⟩) | ⟨o, vs, n, h, hc, _⟩
  · exact .base (.tup h)
  · exact .fTuple h
  · exact .kTuple h hc
theorem ansIsB {te : TE} {σ : L2.St} {H : Hp} {v : V} {c : Bool} (hv : ∀ Q : VK, Q v H → te σ H Q) : Ans (tTest (tOp rIsBl te (tC (.bl c)))) σ H (decide (v = .bl c)) := fun Q q => hv _ ⟨c, rfl, _, rfl, q⟩
abbrev s_phrase_of : Stmt := topS 2
theorem sc_phrase_of : FnScope ["part", "inner"] ["part"] (defScope s_phrase_of) := ⟨rfl, rfl, rfl, by decide +kernel, rfl, by decide +kernel, by decide +kernel⟩
-- phrase_of slots: part=0 inner=1(None) globals: isinstance tuple str
theorem fd_phrase_of {f : Addr} {fd : FuncData} (F : Fun K "phrase_of" "phrase_of" s_phrase_of f fd) (m : mg "phrase_of" = some (.ref f)) (B : Bt mg) : ∀ n : Nat, Fd P w K mg base "phrase_of" ["part"] n (spPhr K n)
  | 0 => Fd.none F m (F.binds (ps := ["part"]) fun _ _ _ _ _ _ us hl => match us, hl with | [_], _ => rfl) fun vs H Q E h => by
    obtain ⟨v, d, _, _, _, _, h, _⟩ := h
    exact absurd h (Nat.not_lt_zero _)
  | n + 1 => by
    have D_phrase_of := fd_phrase_of F m B n
    refine ⟨f, fd, F.ok sc_phrase_of (fun vs H Q E h => ?_) (fun cdv A outer s H vs Q E hr h => ?_), m, F.kp, F.binds (ps := ["part"]) fun _ _ _ _ _ _ us hl => match us, hl with | [_], _ => rfl⟩
    · obtain ⟨v, d, rfl, _⟩ := h
      rfl
    obtain ⟨v, d, rfl, hd, hp, hn, hdp, hc, q⟩ := h
    refine ⟨_, (pss_cons (ps_if (pt_cmpR op_isBv (pv 0) pe_bl (nomark _))
 (pss_one (ps_ret pe_str))
 pss_nil)
 (pss_cons (ps_if (pt_cmpR op_isBv (pv 0) pe_bl (nomark _))
 (pss_one (ps_ret pe_str))
 pss_nil)
 (pss_cons (ps_if (pt_val (pe_callB (cIsi K) (by rfl) B.isinstance (by decide +kernel) (pa_cons (pv 0) (pa_cons (pe_bltn (v := .ty "tuple") (by rfl) B.tuple (by decide +kernel) rfl) pa_nil))))
 (pss_one (ps_ret (pe_join pe_str (pe_lc (own := [("inner", 1)]) (g := gName 1) (by rfl) sc_phrase_of.nd (piT K (pv 0)) (blkOk_by (own := [("inner", 1)]) (N := ["part", "inner"]) (sc := (defScope s_phrase_of)) (by decide +kernel)) (fun _ _ _ _ _ => (pg_name (i := 1) sc_phrase_of.nd rfl (Or.inl rfl))) (fun _ _ _ _ _ => pts_nil) (fun _ _ _ _ _ => (pe_fn D_phrase_of hr rfl (pa_cons (pv 1) pa_nil)))))))
 pss_nil)
 (pss_one (ps_ret (pe_callTy call_str_both (by rfl) B.str (by decide +kernel) (pa_cons (pv 0) pa_nil))))))), ?_⟩
    cases d with
    | none => cases hp
    | list ds => cases hp
    | dict ds => cases hp
    | bool b =>
      cases hd
      cases b with
      | true => exact yesQ (ansIsB (v := .bl true) (c := true) fun Q q => ⟨_, rfl, q⟩) (q _ (Same.refl _))
      | false =>
        refine noQ (ansIsB (v := .bl false) (c := true) fun Q q => ⟨_, rfl, q⟩) ?_
        exact yesQ (ansIsB (v := .bl false) (c := false) fun Q q => ⟨_, rfl, q⟩) (q _ (Same.refl _))
    | int i =>
      cases hd
      refine noQ (ansIsB (v := .int i) (c := true) fun Q q => ⟨_, rfl, q⟩) ?_
      refine noQ (ansIsB (v := .int i) (c := false) fun Q q => ⟨_, rfl, q⟩) ?_
      refine noQ (ansIsi (T := "int") (fun Q q => ⟨_, rfl, q⟩) (.base (.int _)) (by decide +kernel)) ?_
      exact ⟨_, rfl, .inl ⟨i, rfl, int_log hn, q _ (Same.refl _)⟩⟩
    | str s =>
      cases hd
      refine noQ (ansIsB (v := .str s) (c := true) fun Q q => ⟨_, rfl, q⟩) ?_
      refine noQ (ansIsB (v := .str s) (c := false) fun Q q => ⟨_, rfl, q⟩) ?_
      refine noQ (ansIsi (T := "str") (fun Q q => ⟨_, rfl, q⟩) (.base (.str _)) (by decide +kernel)) ?_
      exact ⟨_, rfl, .inr ⟨s, rfl, q _ (Same.refl _)⟩⟩
    | tuple ds =>
      obtain ⟨a, xs, rfl, hs, ha⟩ := dp_tup hd
      have hl := dpa_len ha
      have hp2 : hdStr ds = true ∧ phOks ds = true := by simpa only [phOk, Bool.and_eq_true] using hp
      have hde : PyData.depthAll ds + 1 < n + 1 := hdp
      have hce : cellsAll ds + 1 ≤ 40000 := hc
      have hn2 : niceAll ds = true := hn
      have hsum := phrs_len ds hn2
      refine noQ (ansIsB (v := .ref a) (c := true) fun Q q => ⟨_, rfl, q⟩) ?_
      refine noQ (ansIsB (v := .ref a) (c := false) fun Q q => ⟨_, rfl, q⟩) ?_
      refine yesQ (ansIsi (T := "tuple") (fun Q q => ⟨_, rfl, q⟩) (tyx_tup hs) (by decide +kernel)) ?_
      refine ⟨⟨_, rfl⟩, _, rfl, a, rfl, ⟨_, hs⟩, fun D nD => lc_tup (xs := xs) (fun i H' => Same H H' ∧ H' D = some (.lst (((phrs ds).take i).map V.str))) ⟨same_new nD, upd_same⟩ (fun _ H' _ p => Same.seqT p.1 hs) ?_ ?_⟩
      · rintro i x H' hx ⟨sm, eD⟩
        obtain ⟨d, hdi, dx⟩ := dpa_at ha hx
        have hm := List.mem_of_getElem? hdi
        have hph : (phrs ds)[i]? = some (phr d) := by rw [phrs_map, List.getElem?_map, hdi]; rfl
        have hi := (List.getElem?_eq_some_iff.mp hdi).1
        have h1 := depth_mem (ds := ds) d hm
        have h2 := cells_mem (ds := ds) d hm
        refine ⟨rfl, _, rfl, x, d, rfl, dp_mono sm dx, phOks_mem hp2.2 d hm, niceAll_mem hn2 d hm, by omega, by omega, fun H5 s5 => ⟨_, s5 _ _ eD, ?_, Same.mut (sm.trans s5) nD, ?_⟩⟩
        · rw [List.length_map, List.length_take, phrs_map, List.length_map]
          have : ds.length ≤ (phrs ds).length := by rw [phrs_map, List.length_map]; exact Nat.le_refl _
          exact szl6 (by omega)
        · rw [upd_same, take_snoc hph, List.map_append]
          rfl
      · rintro H' ⟨sm, eD⟩
        rw [List.take_of_length_le (by rw [phrs_map, List.length_map]; omega)] at eD
        refine ⟨_, D, _, rfl, rfl, .inl (sq eD), ?_, q H' sm⟩
        rw [show (Str.ofString " ").length = 1 by decide +kernel]
        omega
abbrev s_line_of : Stmt := topS 3
theorem sc_line_of : FnScope ["statement", "word"] ["statement"] (defScope s_line_of) := ⟨rfl, rfl, rfl, by decide +kernel, rfl, by decide +kernel, by decide +kernel⟩
-- line_of slots: statement=0 word=1 globals: phrase_of
def lin : ST → Str
  | .choose _ => Str.ofString "choose"
  | .iff c _ _ => phr (.tuple [.str (Str.ofString "if"), c.data])
  | .loop c _ => phr (.tuple [.str (Str.ofString "loop"), c.data])
  | s => phr s.data
/-- a statement whose line can be written -/
def LnOk : ST → Prop
  | .choose _ => True
  | .iff c _ _ => phOk c.data = true ∧ NcD c.data 46 4
  | .loop c _ => phOk c.data = true ∧ NcD c.data 46 4
  | s => phOk s.data = true ∧ NcD s.data 60 6
theorem lnok_plain {s : ST} (h : LnOk s) (h1 : s.word ≠ Str.ofString "if") (h2 : s.word ≠ Str.ofString "loop") (h3 : s.word ≠ Str.ofString "choose") : (phOk s.data = true ∧ NcD s.data 60 6) ∧ lin s = phr s.data := by
  cases s <;> first | exact ⟨h, rfl⟩ | exact absurd rfl h1 | exact absurd rfl h2 | exact absurd rfl h3
def spLine (K : PySem.W.Frag) : Sp := fun vs H Q _ => ∃ (v : V) (s : ST), vs = [v] ∧ Dp K H v s.data ∧ LnOk s ∧ ∀ H', Same H H' → Q (.str (lin s)) H'
theorem fd_line_of {f : Addr} {fd : FuncData} (F : Fun K "line_of" "line_of" s_line_of f fd) (m : mg "line_of" = some (.ref f)) (D_phrase_of : Fd P w K mg base "phrase_of" ["part"] 8 (spPhr K 8)) : Fd P w K mg base "line_of" ["statement"] 9 (spLine K) := by
  refine ⟨f, fd, F.ok sc_line_of (fun vs H Q E h => ?_) (fun cdv A outer s H vs Q E hr h => ?_), m, F.kp, F.binds (ps := ["statement"]) fun _ _ _ _ _ _ us hl => match us, hl with | [_], _ => rfl⟩
  · obtain ⟨v, s, rfl, _⟩ := h
    rfl
  obtain ⟨v, s, rfl, hd, hok, q⟩ := h
  obtain ⟨a, xs, rfl, hs, ha⟩ := st_dp hd
  refine ⟨_, (pss_cons (ps_set (i := 1) sc_line_of.nd rfl (Or.inl rfl) (pe_ix (ixT K) (pv 0) pe_int (fun _ _ => rfl)))
 (pss_cons (ps_if (pt_cmpR op_eq (pv 1) pe_str (nomark _))
 (pss_one (ps_ret (pv 1)))
 pss_nil)
 (pss_cons (ps_if (PW.pt (pw_or (pt_cmpR op_eq (pv 1) pe_str (nomark _)) (pw_or1 (pt_cmpR op_eq (pv 1) pe_str (nomark _)))))
 (pss_one (ps_ret (pe_fn D_phrase_of (hr.mono (by decide)) rfl (pa_cons (pe_tup (pa_cons (pv 1) (pa_cons (pe_ix (ixT K) (pv 0) pe_int (fun _ _ => rfl)) pa_nil))) pa_nil))))
 pss_nil)
 (pss_one (ps_ret (pe_fn D_phrase_of (hr.mono (by decide)) rfl (pa_cons (pv 0) pa_nil))))))), ?_⟩
  refine ⟨_, rfl, _, _, _, _, rfl, rfl, hs, atI_nat (j := 0) rfl, ?_⟩
  dsimp only [gName]
  refine ifR (b := _) (fun Q q => ⟨_, rfl, rfl, _, rfl, q⟩) (fun hb => ?_) (fun h1 => ?_)
  · obtain ⟨bs, rfl⟩ := word_choose (str_inj (of_decide_eq_true hb))
    exact ⟨_, rfl, q _ (Same.refl _)⟩
  have n3 := dec_ne h1
  have cond : ∀ {w : Str} {c : CT} {v1 : V}, nice (.str w) = true → Dp K H v1 c.data → phOk c.data = true ∧ NcD c.data 46 4 → ∀ {p : Addr}, H p = none → Dp K (upd H p (.tup [.str w, v1])) (.ref p) (.tuple [.str w, c.data]) ∧ phOk (.tuple [.str w, c.data]) = true ∧ NcD (.tuple [.str w, c.data]) 60 5 := fun {w c v1} hw d1 hc {p} np => by
    refine ⟨.tup (st upd_same) (.cons (.str _) (.cons (dp_mono (same_new np) d1) .nil)), ?_, ?_⟩
    · show (true && (true && (phOk c.data && true))) = true
      rw [hc.1]
      rfl
    · exact (NcL.tup (m := 4) (.cons (.str hw) (.cons hc.2 (.nil (c := 0))))).mono (by decide) (by decide)
  refine ifR (b := _) (ansOr (fun Q q => ⟨_, rfl, rfl, _, rfl, q⟩) (fun Q q => ⟨_, rfl, rfl, _, rfl, q⟩)) (fun hb => ?_) (fun hb => ?_)
  · rcases Bool.or_eq_true_iff.mp hb with h | h
    · obtain ⟨c, x, y, rfl⟩ := word_if (str_inj (of_decide_eq_true h))
      obtain ⟨v1, r1, rfl, d1, _⟩ := dpa_cons ha
      refine ⟨_, rfl, _, rfl, _, _, _, _, rfl, rfl, hs, atI_nat (j := 1) rfl, szc 2, fun p np => ?_⟩
      obtain ⟨dp, ok, nc⟩ := cond (w := Str.ofString "if") (by decide +kernel) d1 hok np
      exact ⟨_, _, rfl, dp, ok, nc.ni, Nat.lt_of_le_of_lt nc.de (by decide), Nat.le_trans nc.ce (by decide), fun H' s' => q _ ((same_new np).trans s')⟩
    · obtain ⟨c, x, rfl⟩ := word_loop (str_inj (of_decide_eq_true h))
      obtain ⟨v1, r1, rfl, d1, _⟩ := dpa_cons ha
      refine ⟨_, rfl, _, rfl, _, _, _, _, rfl, rfl, hs, atI_nat (j := 1) rfl, szc 2, fun p np => ?_⟩
      obtain ⟨dp, ok, nc⟩ := cond (w := Str.ofString "loop") (by decide +kernel) d1 hok np
      exact ⟨_, _, rfl, dp, ok, nc.ni, Nat.lt_of_le_of_lt nc.de (by decide), Nat.le_trans nc.ce (by decide), fun H' s' => q _ ((same_new np).trans s')⟩
  obtain ⟨b1, b2⟩ := Bool.or_eq_false_iff.mp hb
  obtain ⟨⟨ok, nc⟩, e⟩ := lnok_plain hok (dec_ne b1) (dec_ne b2) n3
  rw [e] at q
  exact ⟨_, rfl, _, _, rfl, hd, ok, nc.ni, Nat.lt_of_le_of_lt nc.de (by decide), Nat.le_trans nc.ce (by decide), fun H' s' => q _ s'⟩
end
section
variable {P : Program} {w : World} {K : PySem.W.Frag} {mg : Str → Option Value} {base : Heap}
theorem join2 (a b : Str) : Txt.join sp1 [a, b] = a ++ Str.ofString " " ++ b := by
  refine str_ext ?_
  have e2 := TL.tl_join sp1 [a, b]
  rw [← TL.join_eq, show TL.tl sp1 = [32] by decide +kernel] at e2
  have e3 : (Txt.join sp1 [a, b]).cps.toList = TL.tl a ++ ([32] ++ TL.tl b) := e2
  rw [e3, str_app, str_app, List.append_assoc]
  rfl
abbrev s_law_words : Stmt := topS 28
theorem sc_law_words : FnScope ["thing", "part"] ["thing"] (defScope s_law_words) := ⟨rfl, rfl, rfl, by decide +kernel, rfl, by decide +kernel, by decide +kernel⟩
-- _law_words slots: thing=0 part=1(None) globals: isinstance bool int tuple str
theorem fd_law_words {f : Addr} {fd : FuncData} (F : Fun K "_law_words" "_law_words" s_law_words f fd) (m : mg "_law_words" = some (.ref f)) (B : Bt mg) : ∀ n : Nat, Fd P w K mg base "_law_words" ["thing"] n (spPhr K n)
  | 0 => Fd.none F m (F.binds (ps := ["thing"]) fun _ _ _ _ _ _ us hl => match us, hl with | [_], _ => rfl) fun vs H Q E h => by
    obtain ⟨v, d, _, _, _, _, h, _⟩ := h
    exact absurd h (Nat.not_lt_zero _)
  | n + 1 => by
    have D_law_words := fd_law_words F m B n
    refine ⟨f, fd, F.ok sc_law_words (fun vs H Q E h => ?_) (fun cdv A outer s H vs Q E hr h => ?_), m, F.kp, F.binds (ps := ["thing"]) fun _ _ _ _ _ _ us hl => match us, hl with | [_], _ => rfl⟩
    · obtain ⟨v, d, rfl, _⟩ := h
      rfl
    obtain ⟨v, d, rfl, hd, hp, hn, hdp, hc, q⟩ := h
    refine ⟨_, (pss_cons (ps_if (pt_val (pe_callB (cIsi K) (by rfl) B.isinstance (by decide +kernel) (pa_cons (pv 0) (pa_cons (pe_bltn (v := .ty "bool") (by rfl) B.bool (by decide +kernel) rfl) pa_nil))))
 (pss_one (ps_ret (pe_ix (ixL K) (pe_lst (pa_cons pe_str (pa_cons pe_str pa_nil))) (pe_callTy call_int1 (by rfl) B.int (by decide +kernel) (pa_cons (pv 0) pa_nil)) (fun _ _ => rfl))))
 pss_nil)
 (pss_cons (ps_if (pt_val (pe_callB (cIsi K) (by rfl) B.isinstance (by decide +kernel) (pa_cons (pv 0) (pa_cons (pe_bltn (v := .ty "tuple") (by rfl) B.tuple (by decide +kernel) rfl) pa_nil))))
 (pss_one (ps_ret (pe_join pe_str (pe_op (opCat K) (pe_lst (pa_cons (pe_ix (ixT K) (pv 0) pe_int (fun _ _ => rfl)) pa_nil)) (pe_lc (own := [("part", 1)]) (g := gName 1) (by rfl) sc_law_words.nd (piT K (pe_slice (slT K) (pv 0) (po_some pe_int) po_none)) (blkOk_by (own := [("part", 1)]) (N := ["thing", "part"]) (sc := (defScope s_law_words)) (by decide +kernel)) (fun _ _ _ _ _ => (pg_name (i := 1) sc_law_words.nd rfl (Or.inl rfl))) (fun _ _ _ _ _ => pts_nil) (fun _ _ _ _ _ => (pe_fn D_law_words hr rfl (pa_cons (pv 1) pa_nil))))))))
 pss_nil)
 (pss_one (ps_ret (pe_callTy call_str_both (by rfl) B.str (by decide +kernel) (pa_cons (pv 0) pa_nil)))))), ?_⟩
    cases d with
    | none => cases hp
    | list ds => cases hp
    | dict ds => cases hp
    | bool b =>
      cases hd
      refine yesQ (ansIsi (T := "bool") (fun Q q => ⟨_, rfl, q⟩) (.base (.bl _)) (by decide +kernel)) ?_
      refine ⟨szc 2, fun p np => ⟨_, rfl, .inr ⟨b, rfl, ?_⟩⟩⟩
      cases b with
      | true => exact ⟨_, _, _, _, rfl, rfl, sq upd_same, atI_nat (j := 1) rfl, q _ (same_new np)⟩
      | false => exact ⟨_, _, _, _, rfl, rfl, sq upd_same, atI_nat (j := 0) rfl, q _ (same_new np)⟩
    | int i =>
      cases hd
      refine noQ (ansIsi (T := "int") (fun Q q => ⟨_, rfl, q⟩) (.base (.int _)) (by decide +kernel)) ?_
      refine noQ (ansIsi (T := "int") (fun Q q => ⟨_, rfl, q⟩) (.base (.int _)) (by decide +kernel)) ?_
      exact ⟨_, rfl, .inl ⟨i, rfl, int_log hn, q _ (Same.refl _)⟩⟩
    | str s =>
      cases hd
      refine noQ (ansIsi (T := "str") (fun Q q => ⟨_, rfl, q⟩) (.base (.str _)) (by decide +kernel)) ?_
      refine noQ (ansIsi (T := "str") (fun Q q => ⟨_, rfl, q⟩) (.base (.str _)) (by decide +kernel)) ?_
      exact ⟨_, rfl, .inr ⟨s, rfl, q _ (Same.refl _)⟩⟩
    | tuple ds =>
      obtain ⟨a, xs, rfl, hs, ha⟩ := dp_tup hd
      have hl := dpa_len ha
      have hp2 : hdStr ds = true ∧ phOks ds = true := by simpa only [phOk, Bool.and_eq_true] using hp
      have hde : PyData.depthAll ds + 1 < n + 1 := hdp
      have hce : cellsAll ds + 1 ≤ 40000 := hc
      have hn2 : niceAll ds = true := hn
      have hsum := phrs_len ds hn2
      obtain ⟨h0, es, rfl⟩ : ∃ h0 es, ds = .str h0 :: es := by
        match ds, hp2.1 with
        | .str s :: r, _ => exact ⟨s, r, rfl⟩
      obtain ⟨x0, ys, rfl, dx0, hys⟩ := dpa_cons ha
      obtain rfl := dp_str dx0
      have hyl := dpa_len hys
      have hok : phOks es = true := by
        have h' : phOk (.str h0) = true ∧ phOks es = true := by simpa only [phOks, Bool.and_eq_true] using hp2.2
        exact h'.2
      have hni : niceAll es = true := by
        have h' : nice (.str h0) = true ∧ niceAll es = true := by simpa only [niceAll, Bool.and_eq_true] using hn2
        exact h'.2
      have hce2 : cells (.str h0) + cellsAll es + 1 ≤ 40000 := hce
      have hde2 : max (PyData.str h0).depth (PyData.depthAll es) + 1 < n + 1 := hde
      refine noQ (ansIsi (T := "tuple") (fun Q q => ⟨_, rfl, q⟩) (tyx_tup hs) (by decide +kernel)) ?_
      refine yesQ (ansIsi (T := "tuple") (fun Q q => ⟨_, rfl, q⟩) (tyx_tup hs) (by decide +kernel)) ?_
      refine ⟨⟨_, rfl⟩, _, rfl, _, _, _, _, rfl, rfl, hs, atI_nat (j := 0) rfl, szc 1, fun L nL => ?_⟩
      have sL := same_new nL (o := HO.lst [V.str h0])
      have eL : (upd H L (.lst [V.str h0])) L = some (.lst [V.str h0]) := upd_same
      generalize upd H L (.lst [V.str h0]) = H1 at sL eL ⊢
      have cut1 : cutV (V.str h0 :: ys) (some 1) none = ys := by
        have e : cutV (V.str h0 :: ys) (some ((1 : Nat) : Int)) none = ys := by
          unfold cutV
          rw [HT.sIx_nat]
          have e2 : HT.sIx (V.str h0 :: ys).length (V.str h0 :: ys).length none = ys.length + 1 := rfl
          have e3 : min 1 (V.str h0 :: ys).length = 1 := by rw [List.length_cons]; omega
          rw [e2, e3, Nat.add_sub_cancel]
          exact List.take_length
        exact e
      refine ⟨_, rfl, 1, rfl, a, _, rfl, Same.seqT sL hs, ?_, fun p np => ?_⟩
      · rintro ⟨h1, _⟩
        have h2 : HT.sIx (V.str h0 :: ys).length 0 (some ((1 : Nat) : Int)) = 0 := h1
        rw [HT.sIx_nat, List.length_cons] at h2
        omega
      rw [cut1]
      have sp := same_new np (o := HO.tup ys)
      have ep : (upd H1 p (.tup ys)) p = some (.tup ys) := upd_same
      generalize upd H1 p (.tup ys) = H2 at sp ep ⊢
      have s2 := sL.trans sp
      refine ⟨p, rfl, ⟨_, st ep⟩, fun D nD => lc_tup (xs := ys) (fun i H' => Same H2 H' ∧ H' D = some (.lst (((phrs es).take i).map V.str))) ⟨same_new nD, upd_same⟩ (fun _ H' _ h => Same.seqT h.1 (st ep)) ?_ ?_⟩
      · rintro i x H' hx ⟨sm, eD⟩
        obtain ⟨d, hdi, dx⟩ := dpa_at hys hx
        have hm := List.mem_of_getElem? hdi
        have hph : (phrs es)[i]? = some (phr d) := by rw [phrs_map, List.getElem?_map, hdi]; rfl
        have hi := (List.getElem?_eq_some_iff.mp hdi).1
        have h1 := depth_mem (ds := es) d hm
        have h2 := cells_mem (ds := es) d hm
        have hsum2 := phrs_len es hni
        refine ⟨rfl, _, rfl, x, d, rfl, dp_mono (s2.trans sm) dx, phOks_mem hok d hm, niceAll_mem hni d hm, by omega, by omega, fun H5 s5 => ⟨_, s5 _ _ eD, ?_, Same.mut (sm.trans s5) nD, ?_⟩⟩
        · rw [List.length_map, List.length_take, phrs_map, List.length_map]
          have : es.length ≤ (phrs es).length := by rw [phrs_map, List.length_map]; exact Nat.le_refl _
          exact szl6 (by omega)
        · rw [upd_same, take_snoc hph, List.map_append]
          rfl
      · rintro H' ⟨sm, eD⟩
        rw [List.take_of_length_le (by rw [phrs_map, List.length_map]; omega)] at eD
        have hsum2 := phrs_len es hni
        have hpl : (phrs es).length = es.length := by rw [phrs_map, List.length_map]
        refine ⟨_, _, _, _, rfl, rfl, sq (sm _ _ (sp _ _ eL)), sq eD, sz6 (by show 1 + ((phrs es).map V.str).length ≤ 1000000; rw [List.length_map]; omega), fun R nR => ?_⟩
        refine ⟨_, R, h0 :: phrs es, rfl, rfl, .inl (sq upd_same), ?_, q _ ((s2.trans sm).trans (same_new nR))⟩
        rw [show (Str.ofString " ").length = 1 by decide +kernel]
        have : ((phrs (PyData.str h0 :: es)).map (·.length)).sum + (phrs (PyData.str h0 :: es)).length ≤ 22 * (cells (.str h0) + cellsAll es) := hsum
        show ((h0 :: phrs es).map (·.length)).sum + (h0 :: phrs es).length * 1 ≤ _
        have e : phrs (PyData.str h0 :: es) = h0 :: phrs es := rfl
        rw [e] at this
        omega
abbrev s_law_line : Stmt := topS 33
theorem sc_law_line : FnScope ["statement"] ["statement"] (defScope s_law_line) := ⟨rfl, rfl, rfl, by decide +kernel, rfl, by decide +kernel, by decide +kernel⟩
-- _law_line slots: statement=0 globals: _law_words
theorem fd_law_line {f : Addr} {fd : FuncData} (F : Fun K "_law_line" "_law_line" s_law_line f fd) (m : mg "_law_line" = some (.ref f)) (D_law_words : Fd P w K mg base "_law_words" ["thing"] 8 (spPhr K 8)) : Fd P w K mg base "_law_line" ["statement"] 9 (spLine K) := by
  refine ⟨f, fd, F.ok sc_law_line (fun vs H Q E h => ?_) (fun cdv A outer s H vs Q E hr h => ?_), m, F.kp, F.binds (ps := ["statement"]) fun _ _ _ _ _ _ us hl => match us, hl with | [_], _ => rfl⟩
  · obtain ⟨v, s, rfl, _⟩ := h
    rfl
  obtain ⟨v, s, rfl, hd, hok, q⟩ := h
  obtain ⟨a, xs, rfl, hs, ha⟩ := st_dp hd
  refine ⟨_, (pss_cons (ps_if (pt_cmpR op_eq (pe_ix (ixT K) (pv 0) pe_int (fun _ _ => rfl)) pe_str (nomark _))
 (pss_one (ps_ret pe_str))
 pss_nil)
 (pss_cons (ps_if (PW.pt (pw_or (pt_cmpR op_eq (pe_ix (ixT K) (pv 0) pe_int (fun _ _ => rfl)) pe_str (nomark _)) (pw_or1 (pt_cmpR op_eq (pe_ix (ixT K) (pv 0) pe_int (fun _ _ => rfl)) pe_str (nomark _)))))
 (pss_one (ps_ret (pe_op op_add_str (pe_op op_add_str (pe_ix (ixT K) (pv 0) pe_int (fun _ _ => rfl)) pe_str) (pe_fn D_law_words (hr.mono (by decide)) rfl (pa_cons (pe_ix (ixT K) (pv 0) pe_int (fun _ _ => rfl)) pa_nil)))))
 pss_nil)
 (pss_one (ps_ret (pe_fn D_law_words (hr.mono (by decide)) rfl (pa_cons (pv 0) pa_nil)))))), ?_⟩
  refine ifR (b := _) (fun Q q => ⟨_, rfl, _, _, _, _, rfl, rfl, hs, atI_nat (j := 0) rfl, rfl, _, rfl, q⟩) (fun hb => ?_) (fun h1 => ?_)
  · obtain ⟨bs, rfl⟩ := word_choose (str_inj (of_decide_eq_true hb))
    exact q _ (Same.refl _)
  have n3 := dec_ne h1
  refine ifR (b := _) (ansOr (fun Q q => ⟨_, rfl, _, _, _, _, rfl, rfl, hs, atI_nat (j := 0) rfl, rfl, _, rfl, q⟩) (fun Q q => ⟨_, rfl, _, _, _, _, rfl, rfl, hs, atI_nat (j := 0) rfl, rfl, _, rfl, q⟩)) (fun hb => ?_) (fun hb => ?_)
  · have go : ∀ {c : CT}, phOk c.data = true ∧ NcD c.data 46 4 → (phr c.data).length ≤ 1100 := fun {c} hc => by
      have h1 := phr_len c.data hc.2.ni
      have h2 := hc.2.ce
      omega
    have tx : ∀ {w : Str} {c : CT}, phr (.tuple [.str w, c.data]) = w ++ Str.ofString " " ++ phr c.data := fun {w c} => join2 w (phr c.data)
    rcases Bool.or_eq_true_iff.mp hb with h | h
    · obtain ⟨c, x, y, rfl⟩ := word_if (str_inj (of_decide_eq_true h))
      obtain ⟨v1, r1, rfl, d1, _⟩ := dpa_cons ha
      have hc : phOk c.data = true ∧ NcD c.data 46 4 := hok
      have hg := go hc
      refine ⟨_, rfl, _, _, _, _, rfl, rfl, hs, atI_nat (j := 0) rfl, _, _, rfl, rfl, sz (show (Str.ofString "if").length + (Str.ofString " ").length ≤ 100000 by decide +kernel), ?_⟩
      refine ⟨_, rfl, _, _, _, _, rfl, rfl, hs, atI_nat (j := 1) rfl, _, _, rfl, d1, hc.1, hc.2.ni, Nat.lt_of_le_of_lt hc.2.de (by decide), Nat.le_trans hc.2.ce (by decide), fun H' s' => ⟨_, _, rfl, rfl, ?_, ?_⟩⟩
      · have : (Str.ofString "if" ++ Str.ofString " ").length = 3 := by decide +kernel
        refine sz ?_
        show (Str.ofString "if" ++ Str.ofString " ").length + _ ≤ _
        omega
      · have q2 := q _ s'
        rw [show lin (.iff c x y) = Str.ofString "if" ++ Str.ofString " " ++ phr c.data from tx] at q2
        exact q2
    · obtain ⟨c, x, rfl⟩ := word_loop (str_inj (of_decide_eq_true h))
      obtain ⟨v1, r1, rfl, d1, _⟩ := dpa_cons ha
      have hc : phOk c.data = true ∧ NcD c.data 46 4 := hok
      have hg := go hc
      refine ⟨_, rfl, _, _, _, _, rfl, rfl, hs, atI_nat (j := 0) rfl, _, _, rfl, rfl, sz (show (Str.ofString "loop").length + (Str.ofString " ").length ≤ 100000 by decide +kernel), ?_⟩
      refine ⟨_, rfl, _, _, _, _, rfl, rfl, hs, atI_nat (j := 1) rfl, _, _, rfl, d1, hc.1, hc.2.ni, Nat.lt_of_le_of_lt hc.2.de (by decide), Nat.le_trans hc.2.ce (by decide), fun H' s' => ⟨_, _, rfl, rfl, ?_, ?_⟩⟩
      · have : (Str.ofString "loop" ++ Str.ofString " ").length = 5 := by decide +kernel
        refine sz ?_
        show (Str.ofString "loop" ++ Str.ofString " ").length + _ ≤ _
        omega
      · have q2 := q _ s'
        rw [show lin (.loop c x) = Str.ofString "loop" ++ Str.ofString " " ++ phr c.data from tx] at q2
        exact q2
  obtain ⟨b1, b2⟩ := Bool.or_eq_false_iff.mp hb
  obtain ⟨⟨ok, nc⟩, e⟩ := lnok_plain hok (dec_ne b1) (dec_ne b2) n3
  rw [e] at q
  exact ⟨_, rfl, _, _, rfl, hd, ok, nc.ni, Nat.lt_of_le_of_lt nc.de (by decide), Nat.le_trans nc.ce (by decide), fun H' s' => q _ s'⟩
end
/-! ### marks and lines -/
def marksR : List Rw → List (Str × Nat)
  | [] => []
  | ⟨p, .mark m, _⟩ :: t => (m, p) :: marksR t
  | _ :: t => marksR t
theorem marksR_mark {p f : Nat} {m : Str} {t : List Rw} : marksR (⟨p, .mark m, f⟩ :: t) = (m, p) :: marksR t := rfl
theorem marksR_else {r : Rw} {t : List Rw} (h : r.st.word ≠ Str.ofString "mark") : marksR (r :: t) = marksR t := by
  obtain ⟨p, s, f⟩ := r
  cases s <;> first | rfl | exact absurd rfl h
theorem word_mark {s : ST} (h : s.word = Str.ofString "mark") : ∃ m, s = .mark m := by
  cases s <;> first | exact ⟨_, rfl⟩ | (dsimp only [ST.word] at h; exact absurd h (by decide +kernel))
theorem marksR_len : ∀ rs : List Rw, (marksR rs).length ≤ rs.length
  | [] => Nat.le_refl _
  | ⟨p, s, f⟩ :: t => by
    have ih := marksR_len t
    by_cases hw : s.word = Str.ofString "mark"
    · obtain ⟨m, rfl⟩ := word_mark hw
      rw [marksR_mark, List.length_cons, List.length_cons]
      omega
    · rw [marksR_else (r := ⟨p, s, f⟩) hw, List.length_cons]
      omega
def markD (x : Str × Nat) : PyData := .tuple [.str x.1, natD x.2]
section
variable {P : Program} {w : World} {K : PySem.W.Frag} {mg : Str → Option Value} {base : Heap}
abbrev s_marks_of : Stmt := topS 5
theorem sc_marks_of : FnScope ["kind", "row"] ["kind"] (defScope s_marks_of) := ⟨rfl, rfl, rfl, by decide +kernel, rfl, by decide +kernel, by decide +kernel⟩
-- marks_of slots: kind=0 row=1(None) globals: kind_rows
def spMarks (K : PySem.W.Frag) : Sp := fun vs H Q _ => ∃ (V0 : Hp) (v : V) (k : KT), vs = [v] ∧ Same V0 H ∧ Dp K V0 v k.data ∧ k.Fit ∧ ∀ H' a ys, Same H H' → H a = none → H' a = some (.lst ys) → DpAll K (Hv V0 H a H') ys ((marksR k.rows).map markD) → Q (.ref a) H'
theorem fd_marks_of {f : Addr} {fd : FuncData} (F : Fun K "marks_of" "marks_of" s_marks_of f fd) (m : mg "marks_of" = some (.ref f)) (D_kind_rows : Fd P w K mg base "kind_rows" ["kind"] 39 (spKRows K)) : Fd P w K mg base "marks_of" ["kind"] 40 (spMarks K) := by
  refine ⟨f, fd, F.ok sc_marks_of (fun vs H Q E h => ?_) (fun cdv A outer s H vs Q E hr h => ?_), m, F.kp, F.binds (ps := ["kind"]) fun _ _ _ _ _ _ us hl => match us, hl with | [_], _ => rfl⟩
  · obtain ⟨V0, v, k, rfl, _⟩ := h
    rfl
  obtain ⟨V0, v, k, rfl, sV, hd, fit, q⟩ := h
  refine ⟨_, (pss_one (ps_ret (pe_lc (own := [("row", 1)]) (g := gName 1) (by rfl) sc_marks_of.nd (piL K (pe_fn D_kind_rows (hr.mono (by decide)) rfl (pa_cons (pv 0) pa_nil))) (blkOk_by (own := [("row", 1)]) (N := ["kind", "row"]) (sc := (defScope s_marks_of)) (by decide +kernel)) (fun _ _ _ _ _ => (pg_name (i := 1) sc_marks_of.nd rfl (Or.inl rfl))) (fun _ _ _ _ _ => (pts_one (pt_cmpR op_eq (pe_ix (ixT K) (pe_ix (ixT K) (pv 1) pe_int (fun _ _ => rfl)) pe_int (fun _ _ => rfl)) pe_str (nomark _)))) (fun _ _ _ _ _ => (pe_tup (pa_cons (pe_ix (ixT K) (pe_ix (ixT K) (pv 1) pe_int (fun _ _ => rfl)) pe_int (fun _ _ => rfl)) (pa_cons (pe_ix (ixT K) (pv 1) pe_int (fun _ _ => rfl)) pa_nil))))))), ?_⟩
  refine ⟨_, rfl, V0, v, k, rfl, sV, hd, fit, fun H1 A ys s1 nA eA da => ?_⟩
  have hrn : k.rows.length = totL k.body := rwsL_len _ _ _
  have hyl := dpa_len da
  rw [List.length_map] at hyl
  have hf := fit.2.2
  refine ⟨A, rfl, ⟨_, sq eA⟩, fun D nD => lc_list (xs := ys) (fun i H' => Same H1 H' ∧ ∃ (acc : List (Str × Nat)) (zs : List V), H' D = some (.lst zs) ∧ DpAll K (Hv V0 H D H') zs (acc.map markD) ∧ acc.length ≤ i ∧ marksR k.rows = acc ++ marksR (k.rows.drop i)) ?_ (fun _ H' _ p => sq (p.1 _ _ eA)) ?_ ?_⟩
  · exact ⟨same_new nD, [], [], upd_same, .nil, Nat.le_refl _, by rw [List.drop_zero]; rfl⟩
  · rintro i x H' hx ⟨sm, acc, zs, eD, dz, hac, er⟩
    obtain ⟨r, hri, a, sv, ev, rfl, ha, hs, he⟩ := rows_at da hx
    have hil := (List.getElem?_eq_some_iff.mp hri).1
    obtain ⟨as, xs, rfl, hss, hxs⟩ := st_dp hs
    have sW : Same (Vw V0 H H1) H' := (vw_same (sV.trans s1)).trans sm
    have zl := dpa_len dz
    rw [List.length_map] at zl
    rw [drop_get hri] at er
    refine ⟨rfl, _, rfl, _, _, _, _, rfl, rfl, Same.seqT sW ha, atI_nat (j := 1) rfl, _, _, _, _, rfl, rfl, Same.seqT sW hss, atI_nat (j := 0) rfl, rfl, _, rfl, ite2 (fun hb => ?_) (fun hb => ?_)⟩
    · obtain ⟨pt, s, fo⟩ := r
      obtain ⟨mm, rfl⟩ := word_mark (str_inj (of_decide_eq_true hb))
      obtain ⟨v1, r1, rfl, d1, hxs⟩ := dpa_cons hxs
      rw [dp_str d1] at hss
      rw [marksR_mark] at er
      refine ⟨_, rfl, _, _, _, _, rfl, rfl, Same.seqT sW ha, atI_nat (j := 1) rfl, _, _, _, _, rfl, rfl, Same.seqT sW hss, atI_nat (j := 1) rfl, _, rfl, _, _, _, _, rfl, rfl, Same.seqT sW ha, atI_nat (j := 0) rfl, szc 2, fun T nT => ⟨zs, same_new nT _ _ eD, szl (by omega), ?_⟩⟩
      have sT := same_new nT (o := HO.tup [V.str mm, natV pt])
      refine ⟨Same.mut (sm.trans sT) nD, acc ++ [(mm, pt)], zs ++ [.ref T], upd_same, ?_, by rw [List.length_append]; exact Nat.succ_le_succ hac, ?_⟩
      · rw [List.map_append]
        exact dpAll_mono hv_upd (dpa_app (dpAll_mono (hv_to sT) dz) (.cons (.tup (st ((hv_new (s1.trans sm) eD nT).trans upd_same)) (.cons (.str _) (.cons (.int _) .nil))) .nil))
      · rw [List.append_assoc]
        exact er
    · have e2 := marksR_else (t := k.rows.drop (i + 1)) (dec_ne (Bool.eq_false_iff.mpr hb))
      rw [e2] at er
      exact ⟨sm, acc, zs, eD, dz, by omega, er⟩
  · rintro H' ⟨sm, acc, zs, eD, dz, hac, er⟩
    rw [List.drop_of_length_le (by omega)] at er
    have er2 : marksR k.rows = acc := er.trans (List.append_nil _)
    refine q H' D zs (s1.trans sm) (s1.free nD) eD ?_
    rw [er2]
    exact dz
abbrev s_lines_of : Stmt := topS 6
theorem sc_lines_of : FnScope ["kind", "row"] ["kind"] (defScope s_lines_of) := ⟨rfl, rfl, rfl, by decide +kernel, rfl, by decide +kernel, by decide +kernel⟩
-- lines_of slots: kind=0 row=1(None) globals: kind_rows
def spLines (K : PySem.W.Frag) : Sp := fun vs H Q _ => ∃ (V0 : Hp) (v : V) (k : KT), vs = [v] ∧ Same V0 H ∧ Dp K V0 v k.data ∧ k.Fit ∧ (∀ r ∈ k.rows, LnOk r.st) ∧ ∀ H' a, Same H H' → H a = none → H' a = some (.lst ((k.rows.map fun r => lin r.st).map V.str)) → Q (.ref a) H'
theorem fd_lines_of {f : Addr} {fd : FuncData} (F : Fun K "lines_of" "lines_of" s_lines_of f fd) (m : mg "lines_of" = some (.ref f)) (D_kind_rows : Fd P w K mg base "kind_rows" ["kind"] 39 (spKRows K)) (D_line_of : Fd P w K mg base "line_of" ["statement"] 9 (spLine K)) : Fd P w K mg base "lines_of" ["kind"] 40 (spLines K) := by
  refine ⟨f, fd, F.ok sc_lines_of (fun vs H Q E h => ?_) (fun cdv A outer s H vs Q E hr h => ?_), m, F.kp, F.binds (ps := ["kind"]) fun _ _ _ _ _ _ us hl => match us, hl with | [_], _ => rfl⟩
  · obtain ⟨V0, v, k, rfl, _⟩ := h
    rfl
  obtain ⟨V0, v, k, rfl, sV, hd, fit, hln, q⟩ := h
  refine ⟨_, (pss_one (ps_ret (pe_lc (own := [("row", 1)]) (g := gName 1) (by rfl) sc_lines_of.nd (piL K (pe_fn D_kind_rows (hr.mono (by decide)) rfl (pa_cons (pv 0) pa_nil))) (blkOk_by (own := [("row", 1)]) (N := ["kind", "row"]) (sc := (defScope s_lines_of)) (by decide +kernel)) (fun _ _ _ _ _ => (pg_name (i := 1) sc_lines_of.nd rfl (Or.inl rfl))) (fun _ _ _ _ _ => pts_nil) (fun _ _ _ _ _ => (pe_fn D_line_of (hr.mono (by decide)) rfl (pa_cons (pe_ix (ixT K) (pv 1) pe_int (fun _ _ => rfl)) pa_nil)))))), ?_⟩
  refine ⟨_, rfl, V0, v, k, rfl, sV, hd, fit, fun H1 A ys s1 nA eA da => ?_⟩
  have hrn : k.rows.length = totL k.body := rwsL_len _ _ _
  have hyl := dpa_len da
  rw [List.length_map] at hyl
  have hf := fit.2.2
  refine ⟨A, rfl, ⟨_, sq eA⟩, fun D nD => lc_list (xs := ys) (fun i H' => Same H1 H' ∧ H' D = some (.lst (((k.rows.take i).map fun r => lin r.st).map V.str))) ⟨same_new nD, upd_same⟩ (fun _ H' _ p => sq (p.1 _ _ eA)) ?_ ?_⟩
  · rintro i x H' hx ⟨sm, eD⟩
    obtain ⟨r, hri, a, sv, ev, rfl, ha, hs, he⟩ := rows_at da hx
    have hil := (List.getElem?_eq_some_iff.mp hri).1
    have sW : Same (Vw V0 H H1) H' := (vw_same (sV.trans s1)).trans sm
    refine ⟨rfl, _, rfl, _, _, _, _, rfl, rfl, Same.seqT sW ha, atI_nat (j := 1) rfl, sv, r.st, rfl, dp_mono sW hs, hln r (List.mem_of_getElem? hri), fun H5 s5 => ⟨_, s5 _ _ eD, ?_, Same.mut (sm.trans s5) nD, ?_⟩⟩
    · rw [List.length_map, List.length_map, List.length_take]
      exact szl (by omega)
    · rw [upd_same, take_snoc hri, List.map_append, List.map_append]
      rfl
  · rintro H' ⟨sm, eD⟩
    rw [List.take_of_length_le (by omega)] at eD
    exact q H' D (s1.trans sm) (s1.free nD) eD
end
/-! ### the signs of phrases -/
theorem ofString_ok (s : String) : ∀ c ∈ (Str.ofString s).cps.toList, c < 0x110000 := by
  intro c hc
  have h : c ∈ s.toList.map Char.toNat := by
    have : (Str.ofString s).cps.toList = s.toList.map Char.toNat := by
      rw [Str.ofString_eq_toList]
    rw [← this]
    exact hc
  obtain ⟨x, _, rfl⟩ := List.mem_map.mp h
  rcases x.valid with h | ⟨_, h⟩
  · show x.val.toNat < 0x110000
    have : x.val.toNat < 0xd800 := h
    omega
  · exact h
theorem mem_join1 : ∀ (parts : List Str), (∀ p ∈ parts, ∀ c ∈ p.cps.toList, c < 0x110000) → ∀ c ∈ (Txt.join sp1 parts).cps.toList, c < 0x110000 := by
  intro parts h c hc
  have e2 := TL.tl_join sp1 parts
  rw [← TL.join_eq, show TL.tl sp1 = [32] by decide +kernel] at e2
  have e3 : (Txt.join sp1 parts).cps.toList = TL.joinL [32] (parts.map TL.tl) := e2
  rw [e3] at hc
  clear e2 e3
  induction parts with
  | nil => cases hc
  | cons p r ih =>
    cases r with
    | nil => exact h p List.mem_cons_self c hc
    | cons q r =>
      have hc2 : c ∈ TL.tl p ++ ([32] ++ TL.joinL [32] ((q :: r).map TL.tl)) := hc
      rcases List.mem_append.mp hc2 with m | m
      · exact h p List.mem_cons_self c m
      · rcases List.mem_append.mp m with m | m
        · rw [List.mem_singleton.mp m]; decide
        · exact ih (fun p hp => h p (List.mem_cons_of_mem _ hp)) m
mutual
theorem phr_ch : ∀ d : PyData, nice d = true → ∀ c ∈ (phr d).cps.toList, c < 0x110000
  | .bool b, _ => by cases b <;> exact ofString_ok _
  | .int i, _ => ofString_ok _
  | .str s, h => by
    simp only [nice, Bool.and_eq_true, List.all_eq_true, decide_eq_true_eq] at h
    intro c hc
    have := h.1 c hc
    omega
  | .tuple ds, h => mem_join1 _ (phrs_ch ds h)
  | .none, _ => ofString_ok _
  | .list _, _ => ofString_ok _
  | .dict _, h => nomatch h
theorem phrs_ch : ∀ ds : List PyData, niceAll ds = true → ∀ p ∈ phrs ds, ∀ c ∈ p.cps.toList, c < 0x110000
  | [], _, _, hp => by cases hp
  | d :: r, h, p, hp => by
    have h' : nice d = true ∧ niceAll r = true := by simpa only [niceAll, Bool.and_eq_true] using h
    rcases List.mem_cons.mp hp with e | e
    · rw [e]; exact phr_ch d h'.1
    · exact phrs_ch r h'.2 p e
end
theorem vt_ph : ∀ t : VT, phOk t.data = true
  | .int _ => rfl
  | .nm _ => rfl
  | .op o a b => by
    show (true && (true && (phOk a.data && (phOk b.data && true)))) = true
    rw [vt_ph a, vt_ph b]; rfl
theorem ct_ph : ∀ t : CT, phOk t.data = true
  | .bl _ => rfl
  | .no c => by
    show (true && (true && (phOk c.data && true))) = true
    rw [ct_ph c]; rfl
  | .an a b => by
    show (true && (true && (phOk a.data && (phOk b.data && true)))) = true
    rw [ct_ph a, ct_ph b]; rfl
  | .or a b => by
    show (true && (true && (phOk a.data && (phOk b.data && true)))) = true
    rw [ct_ph a, ct_ph b]; rfl
  | .cp o a b => by
    show (true && (true && (phOk a.data && (phOk b.data && true)))) = true
    rw [vt_ph a, vt_ph b]; rfl
theorem chk_nc {w : String} {c : CT} (h : NcD c.data 46 4) (hw : nice (.str (Str.ofString w)) = true) : phOk (.tuple [.str (Str.ofString w), c.data]) = true ∧ NcD (.tuple [.str (Str.ofString w), c.data]) 60 6 := by
  refine ⟨?_, (NcL.tup (m := 4) (.cons (.str hw) (.cons h (.nil (c := 0))))).mono (by decide) (by decide)⟩
  show (true && (true && (phOk c.data && true))) = true
  rw [ct_ph c]; rfl
theorem fl_ln : ∀ {s : ST}, fl1 s → LnOk s
  | .iff c _ _, h => ⟨ct_ph c, h⟩
  | .loop c _, h => ⟨ct_ph c, h⟩
  | .choose _, _ => trivial
  | .chk c, h => chk_nc h (by decide +kernel)
  | .awt c, h => chk_nc h (by decide +kernel)
  | .set n v, h => ⟨by
      show (true && (true && (true && (phOk v.data && true)))) = true
      rw [vt_ph v]; rfl, h⟩
  | .skip, h => ⟨rfl, h⟩
  | .acq _, h => ⟨rfl, h⟩
  | .rel _, h => ⟨rfl, h⟩
  | .rest _, h => ⟨rfl, h⟩
  | .wake _, h => ⟨rfl, h⟩
  | .start _, h => ⟨rfl, h⟩
  | .mark _, h => ⟨rfl, h⟩
theorem lin_ch {s : ST} (h : LnOk s) : ∀ c ∈ (lin s).cps.toList, c < 0x110000 := by
  have cond : ∀ {w : String} {c : CT}, NcD c.data 46 4 → nice (.str (Str.ofString w)) = true → ∀ x ∈ (phr (.tuple [.str (Str.ofString w), c.data])).cps.toList, x < 0x110000 := fun hc hw => phr_ch _ (chk_nc hc hw).2.ni
  cases s with
  | choose bs => exact ofString_ok _
  | iff c a b => exact cond h.2 (by decide +kernel)
  | loop c a => exact cond h.2 (by decide +kernel)
  | _ => exact phr_ch _ h.2.ni
theorem marks_nc {c m : Nat} : ∀ (rs : List Rw), (∀ r ∈ rs, NcD r.st.data c m ∧ r.pt < 1000) → NcL ((marksR rs).map markD) (3 * rs.length) 1
  | [], _ => .nil
  | ⟨p, s, f⟩ :: t, h => by
    have ih := marks_nc t fun r hr => h r (List.mem_cons_of_mem _ hr)
    rw [List.length_cons]
    by_cases hw : s.word = Str.ofString "mark"
    · obtain ⟨b, rfl⟩ := word_mark hw
      rw [marksR_mark, List.map_cons]
      have h1 := h ⟨p, .mark b, f⟩ List.mem_cons_self
      have hb : NcD (.str b) c m := NcL.at h1.1.untup (d := .str b) (by show PyData.str b ∈ [_, PyData.str b]; simp)
      have hp : p < 1000 := h1.2
      exact (NcL.cons (NcL.tup (m := 0) (.cons (.str hb.ni) (.cons (natD_nc (by show p < _; omega)) (.nil (c := 0))))) ih).mono (by omega) (Nat.le_refl _)
    · rw [marksR_else (r := ⟨p, s, f⟩) hw]
      exact ih.mono (by omega) (Nat.le_refl _)
section
variable {P : Program} {w : World} {K : PySem.W.Frag} {mg : Str → Option Value} {base : Heap}
abbrev s_law : Stmt := topS 34
theorem sc_law : FnScope ["script", "k", "program", "kind", "before", "entries", "marks", "lines", "actual", "told", "again", "entry"] ["script"] (defScope s_law) := ⟨rfl, rfl, rfl, by decide +kernel, rfl, by decide +kernel, by decide +kernel⟩
-- law slots: script=0 k=1 program=2 kind=3 before=4 entries=5 marks=6 lines=7 actual=8 told=9 again=10 entry=11(None) globals: range _law_program _law_cell repr _law_flow marks_of lines_of isinstance list
def spLaw (K : PySem.W.Frag) : Sp := fun vs H Q _ => ∃ (a : Addr) (ns : List Int), vs = [.ref a] ∧ SqL K H a (ns.map V.int) ∧ ns.length ≤ 63 ∧ ∀ H', Q (.bl true) H'
theorem orF {A B : TT} {t u r : TS} {D : Ends} {σ : L2.St} {H : Hp} (h : Ans A σ H false) (hb : tSeq (tIfS B t u) r D σ H) : tSeq (tIfS (tOr A B) t u) r D σ H := h _ (iteF hb)
theorem orG {A B : TT} {σ : L2.St} {H : Hp} {Q : Bool → Hp → Prop} (h : Ans A σ H false) (hb : B σ H Q) : tOr A B σ H Q := h _ (iteF hb)
theorem neF (s : Str) : (!decide (V.str s = V.str s)) = false := by
  rw [decide_eq_true rfl]
  rfl
theorem nvF {d : PyData} (e : PyData.eqv d d = true) : (!PyData.eqv d d) = false := by
  rw [e]
  rfl
theorem fd_law {f : Addr} {fd : FuncData} (F : Fun K "law" "law" s_law f fd) (m : mg "law" = some (.ref f)) (bind : ∀ (s : Shared) (v : Value), BindsTo s fd ⟨[v], []⟩ [("script", v)]) (B : Bt mg)
    (D_law_cell : Fd P w K mg base "_law_cell" ["script", "k"] 1 (spCellA K)) (D_law_program : Fd P w K mg base "_law_program" ["cell", "more"] 74 (spProg K)) (D_law_flow : Fd P w K mg base "_law_flow" ["body"] 27 (spFlow K)) (D_law_line : Fd P w K mg base "_law_line" ["statement"] 9 (spLine K)) (D_marks_of : Fd P w K mg base "marks_of" ["kind"] 40 (spMarks K)) (D_lines_of : Fd P w K mg base "lines_of" ["kind"] 40 (spLines K)) :
    TopOk P w K mg base f (spLaw K) := by
  refine top_ok (k := 75) F sc_law (by refine ⟨rfl, ?_, ?_⟩ <;> decide +kernel) bind fun cdv s H a Q hr h => ?_
  obtain ⟨a1, ns, ea, hs, hl, q⟩ := h
  cases ea
  refine ⟨_, (pss_cons (ps_for PassesOwn.never rfl (pi_range1 rfl B.range (pa_cons pe_int pa_nil)) (pg_name (i := 1) sc_law.nd rfl (Or.inl rfl))
 (pss_cons (ps_set (i := 2) sc_law.nd rfl (Or.inl rfl) (pe_fn D_law_program (hr.mono (by decide)) rfl (pa_cons (pe_op op_add (pe_fn D_law_cell (hr.mono (by decide)) rfl (pa_cons (pv 0) (pa_cons (pe_op op_mul pe_int (pv 1)) pa_nil))) (pv 1)) (pa_cons (pe_fn D_law_cell (hr.mono (by decide)) rfl (pa_cons (pv 0) (pa_cons (pe_op op_add (pe_op op_mul pe_int (pv 1)) pe_int) pa_nil))) pa_nil))))
 (pss_one (ps_for PassesOwn.never rfl (piL K (pe_ix (ixT K) (pv 2) pe_int (fun _ _ => rfl))) (pg_name (i := 3) sc_law.nd rfl (Or.inl rfl))
 (pss_cons (ps_set (i := 4) sc_law.nd rfl (Or.inl rfl) (pe_callB (cRepr K rfl hr.units) (by rfl) B.repr (by decide +kernel) (pa_cons (pv 3) pa_nil)))
 (pss_cons (ps_set (i := 5) sc_law.nd rfl (Or.inl rfl) (pe_ix (ixT K) (pe_fn D_law_flow (hr.mono (by decide)) rfl (pa_cons (pe_ix (ixT K) (pv 3) pe_int (fun _ _ => rfl)) pa_nil)) pe_int (fun _ _ => rfl)))
 (pss_cons (ps_setLc (i := 6) (own := [("entry", 11)]) (g := gName 11) (by rfl) sc_law.nd rfl rfl (sw_true rfl rfl rfl (by decide +kernel)) (piL K (pv 5)) (blkOk_by (own := [("entry", 11)]) (N := ["script", "k", "program", "kind", "before", "entries", "marks", "lines", "actual", "told", "again", "entry"]) (sc := (defScope s_law)) (by decide +kernel)) (fun _ _ _ _ _ => (pg_name (i := 11) sc_law.nd rfl (Or.inl rfl))) (fun _ _ _ _ _ => (pts_one (pt_cmpR op_eq (pe_ix (ixT K) (pe_ix (ixT K) (pv 11) pe_int (fun _ _ => rfl)) pe_int (fun _ _ => rfl)) pe_str (nomark _)))) (fun _ _ _ _ _ => (pe_tup (pa_cons (pe_ix (ixT K) (pe_ix (ixT K) (pv 11) pe_int (fun _ _ => rfl)) pe_int (fun _ _ => rfl)) (pa_cons (pe_ix (ixT K) (pv 11) pe_int (fun _ _ => rfl)) pa_nil)))))
 (pss_cons (ps_setLc (i := 7) (own := [("entry", 11)]) (g := gName 11) (by rfl) sc_law.nd rfl rfl (sw_true rfl rfl rfl (by decide +kernel)) (piL K (pv 5)) (blkOk_by (own := [("entry", 11)]) (N := ["script", "k", "program", "kind", "before", "entries", "marks", "lines", "actual", "told", "again", "entry"]) (sc := (defScope s_law)) (by decide +kernel)) (fun _ _ _ _ _ => (pg_name (i := 11) sc_law.nd rfl (Or.inl rfl))) (fun _ _ _ _ _ => pts_nil) (fun _ _ _ _ _ => (pe_fn D_law_line (hr.mono (by decide)) rfl (pa_cons (pe_ix (ixT K) (pv 11) pe_int (fun _ _ => rfl)) pa_nil))))
 (pss_cons (ps_set (i := 8) sc_law.nd rfl (Or.inl rfl) (pe_fn D_marks_of (hr.mono (by decide)) rfl (pa_cons (pv 3) pa_nil)))
 (pss_cons (ps_set (i := 9) sc_law.nd rfl (Or.inl rfl) (pe_fn D_lines_of (hr.mono (by decide)) rfl (pa_cons (pv 3) pa_nil)))
 (pss_cons (ps_if (PW.pt (pw_or (pt_not (pt_val (pe_callB (cIsi K) (by rfl) B.isinstance (by decide +kernel) (pa_cons (pv 8) (pa_cons (pe_bltn (v := .ty "list") (by rfl) B.list (by decide +kernel) rfl) pa_nil))))) (pw_or (pt_cmpR (opNeD K hr.units) (pv 8) (pv 6) (nomark _)) (pw_or (pt_not (pt_val (pe_callB (cIsi K) (by rfl) B.isinstance (by decide +kernel) (pa_cons (pv 9) (pa_cons (pe_bltn (v := .ty "list") (by rfl) B.list (by decide +kernel) rfl) pa_nil))))) (pw_or1 (pt_cmpR (opNeD K hr.units) (pv 9) (pv 7) (nomark _)))))))
 (pss_one (ps_ret pe_bl))
 pss_nil)
 (pss_cons (ps_set (i := 10) sc_law.nd rfl (Or.inl rfl) (pe_lst (pa_cons (pe_fn D_marks_of (hr.mono (by decide)) rfl (pa_cons (pv 3) pa_nil)) (pa_cons (pe_fn D_lines_of (hr.mono (by decide)) rfl (pa_cons (pv 3) pa_nil)) pa_nil))))
 (pss_cons (ps_expr (peBm K PySem.F.plainAttrs_list PySem.F.slot_list_append PySem.F.type_list_append mt_append (pv 8) (pa_cons pe_non pa_nil)))
 (pss_cons (ps_expr (peBm K PySem.F.plainAttrs_list PySem.F.slot_list_append PySem.F.type_list_append mt_append (pv 9) (pa_cons pe_non pa_nil)))
 (pss_one (ps_if (PW.pt (pw_or (pt_cmpR (opNeD K hr.units) (pv 10) (pe_lst (pa_cons (pv 6) (pa_cons (pv 7) pa_nil))) (nomark _)) (pw_or (pt_cmpR (opNeD K hr.units) (pe_fn D_marks_of (hr.mono (by decide)) rfl (pa_cons (pv 3) pa_nil)) (pv 6) (nomark _)) (pw_or (pt_cmpR (opNeD K hr.units) (pe_fn D_lines_of (hr.mono (by decide)) rfl (pa_cons (pv 3) pa_nil)) (pv 7) (nomark _)) (pw_or1 (pt_cmpR op_ne (pe_callB (cRepr K rfl hr.units) (by rfl) B.repr (by decide +kernel) (pa_cons (pv 3) pa_nil)) (pv 4) (nomark _)))))))
 (pss_one (ps_ret pe_bl))
 pss_nil))))))))))))))))
 (pss_one (ps_ret pe_bl))), ?_⟩
  refine ⟨3, rfl, by decide, by decide, for_range (lo := 0) (n := 3) (fun i σ' H' => ∃ y1 y2 y3 y4 y5 y6 y7 y8 y9 y10 y11 : Option V, σ' = [some (.ref a), y1, y2, y3, y4, y5, y6, y7, y8, y9, y10, y11] ∧ Same H H') ?_ ?_ ?_⟩
  · exact ⟨_, _, _, _, _, _, _, _, _, _, _, rfl, Same.refl _⟩
  · rintro i σ' H' hi ⟨y1, y2, y3, y4, y5, y6, y7, y8, y9, y10, y11, rfl, sm⟩
    have e1 : (2 * (0 + (i : Int))) = ((2 * i : Nat) : Int) := by omega
    have e2 : (2 * (0 + (i : Int)) + 1) = ((2 * i + 1 : Nat) : Int) := by omega
    dsimp only [gName]
    refine ⟨_, rfl, _, rfl, _, _, rfl, rfl, .inl ⟨by decide, by decide⟩, a, ns, 2 * i, congrArg (fun z => [V.ref a, V.int z]) e1, sm.seq hs, fun c0 => ?_⟩
    refine ⟨_, rfl, _, _, rfl, rfl, ?_⟩
    refine ⟨_, rfl, _, rfl, _, _, rfl, rfl, .inl ⟨by decide, by decide⟩, _, _, rfl, rfl, a, ns, 2 * i + 1, congrArg (fun z => [V.ref a, V.int z]) e2, sm.seq hs, fun c1 => ?_⟩
    refine ⟨_, _, rfl, fun H1 v p ss s1 dp ok => ?_⟩
    have sm1 := sm.trans s1
    have dp1 := dp_mono (nw_same (H := H')) dp
    clear dp
    obtain ⟨pa, pxs, rfl, hp, hpa⟩ := dp_tup dp1
    obtain ⟨v1, r1, rfl, d1, hpa⟩ := dpa_cons hpa
    obtain ⟨v2, r2, rfl, d2, hpa⟩ := dpa_cons hpa
    obtain ⟨v3, r3, rfl, d3, hpa⟩ := dpa_cons hpa
    obtain ⟨v4, r4, rfl, d4, hpa⟩ := dpa_cons hpa
    obtain rfl := dpa_nil hpa
    obtain ⟨ka, kxs, rfl, hk, hka⟩ := dp_lst d4
    dsimp only [gName]
    refine ⟨_, rfl, _, _, _, _, rfl, rfl, hp, atI_nat (j := 3) rfl, ka, rfl, ⟨_, hk⟩, for_list (xs := kxs) (fun j σ' H' => ∃ y3 y4 y5 y6 y7 y8 y9 y10 y11 : Option V, σ' = [some (.ref a), some (.int (0 + (i : Int))), some (.ref pa), y3, y4, y5, y6, y7, y8, y9, y10, y11] ∧ Same H1 H') ?_ ?_ ?_ ?_⟩
    · exact ⟨_, _, _, _, _, _, _, _, _, rfl, Same.refl _⟩
    · rintro j σ' H' _ ⟨y3, y4, y5, y6, y7, y8, y9, y10, y11, rfl, sm⟩
      exact sm.seq hk
    · rintro j x σ' H2 hx ⟨y3, y4, y5, y6, y7, y8, y9, y10, y11, rfl, s2⟩
      obtain ⟨d, hdj, dx⟩ := dpa_at hka hx
      rw [List.getElem?_map] at hdj
      obtain ⟨k, hkj, rfl⟩ : ∃ k, p.kinds[j]? = some k ∧ k.data = d := by
        cases h : p.kinds[j]? with
        | none => rw [h] at hdj; cases hdj
        | some k => rw [h] at hdj; exact ⟨k, rfl, Option.some.inj hdj⟩
      have km : k ∈ p.kinds := List.mem_of_getElem? hkj
      have kfit := kt_dep ok km
      have kshw := (kt_nc ok km).shw (by decide) (by decide)
      have hln : ∀ r ∈ k.rows, LnOk r.st := fun r hr => fl_ln (kt_fl ok km r hr)
      have krm := (kt_room ok km).1
      have hrn : k.rows.length = totL k.body := rwsL_len _ _ _
      -- the data
      have mnc : NcL ((marksR k.rows).map markD) 300 1 := (marks_nc k.rows (c := 6000) (m := 40) fun r hr => by
        have := kt_rows ok km r hr
        exact ⟨this.1, by omega⟩).mono (by omega) (Nat.le_refl _)
      have mshp := mnc.lst.shaped (by decide)
      have meqv := mnc.lst.eqv
      have mlen : (marksR k.rows).length ≤ 100 := by
        have := marksR_len k.rows
        omega
      obtain ⟨ls, hls⟩ : ∃ ls : List Str, ls = k.rows.map fun r => lin r.st := ⟨_, rfl⟩
      have llen : ls.length ≤ 100 := by rw [hls, List.length_map]; omega
      obtain ⟨ll1, ll2⟩ := strs_lay (ss := ls) fun s hs => by
        rw [hls] at hs
        obtain ⟨r, hr, rfl⟩ := List.mem_map.mp hs
        exact lin_ch (hln r hr)
      have lshp : SeqAt.shaped (strsD ls) = true := by
        show (PyData.canLayAll0 (ls.map PyData.str) && decide (PyData.depthAll (ls.map PyData.str) + 1 ≤ 64)) = true
        rw [ll1, ll2]; rfl
      have leqv : PyData.eqv (strsD ls) (strsD ls) = true := SeqAt.eqv_refl _ ll1
      have blay : (PyData.list [.list ((marksR k.rows).map markD), strsD ls]).canLay0 = true := by
        show (PyData.canLay0 (.list ((marksR k.rows).map markD)) && (PyData.canLayAll0 (ls.map PyData.str) && true)) = true
        rw [nice_lay _ mnc.lst.ni, ll1]; rfl
      have bshp : SeqAt.shaped (.list [.list ((marksR k.rows).map markD), strsD ls]) = true := by
        have h1 : (PyData.list ((marksR k.rows).map markD)).depth ≤ 2 := mnc.lst.de
        have h2 : (strsD ls).depth = 1 := by show PyData.depthAll (ls.map PyData.str) + 1 = 1; rw [ll2]
        show (_ && decide (max (PyData.list ((marksR k.rows).map markD)).depth (max (strsD ls).depth 0) + 1 ≤ 64)) = true
        rw [blay, decide_eq_true (by omega)]; rfl
      have beqv := SeqAt.eqv_refl _ blay
      obtain ⟨xa, xb, xc, cv, xs, ys, rfl, hxa, _, _, _, hxc, hyb⟩ := kt_dp dx
      -- before
      dsimp only [gName]
      refine ⟨_, rfl, xa, k.data, rfl, dp_mono s2 dx, kshw.sh, kshw.nd, kshw.de, kshw.ln, ?_⟩
      dsimp only [gName]
      -- entries
      refine ⟨_, rfl, _, _, _, _, rfl, rfl, Same.seqT s2 hxa, atI_nat (j := 3) rfl, H1, .ref xc, k.body, rfl, s2, .lst hxc hyb, kfit.1, kfit.2.1, kfit.2.2, fun H3 t s3 dt => ?_⟩
      have s13 := s2.trans s3
      have dt3 := dp_mono (vw_same (H := H2) s13) dt
      clear dt
      obtain ⟨fa, fxs, rfl, hf, hfa⟩ := dp_tup dt3
      obtain ⟨w1, q1, rfl, g1, hfa⟩ := dpa_cons hfa
      obtain ⟨w2, q2, rfl, g2, hfa⟩ := dpa_cons hfa
      obtain ⟨w3, q3, rfl, g3, hfa⟩ := dpa_cons hfa
      obtain rfl := dpa_nil hfa
      obtain ⟨oa, rows, rfl, hoa, hor⟩ := dp_lst g1
      have hol := dpa_len hor
      rw [List.length_map, rwsL_len] at hol
      refine ⟨_, _, _, _, rfl, rfl, hf, atI_nat (j := 0) rfl, ?_⟩
      dsimp only [gName]
      -- marks
      refine ⟨_, rfl, oa, rfl, ⟨_, hoa⟩, fun D nD => lc_list (xs := rows) (fun i H' => Same H3 H' ∧ ∃ (acc : List (Str × Nat)) (zs : List V), H' D = some (.lst zs) ∧ DpAll K (Hv H3 H3 D H') zs (acc.map markD) ∧ acc.length ≤ i ∧ marksR k.rows = acc ++ marksR (k.rows.drop i)) ?_ (fun _ H' _ p => p.1.seq hoa) ?_ ?_⟩
      · exact ⟨same_new nD, [], [], upd_same, .nil, Nat.le_refl _, by rw [List.drop_zero]; rfl⟩
      · rintro i x H' hx ⟨sm, acc, zs, eD, dz, hac, er⟩
        obtain ⟨r, hri, ra, sv, rfl, ha, hs⟩ := lrows_at hor hx
        have hil := (List.getElem?_eq_some_iff.mp hri).1
        obtain ⟨as, xs, rfl, hss, hxs⟩ := st_dp hs
        have zl := dpa_len dz
        rw [List.length_map] at zl
        have hri' : k.rows[i]? = some r := hri
        rw [drop_get hri'] at er
        rw [rwsL_len] at hil
        refine ⟨rfl, _, rfl, _, _, _, _, rfl, rfl, Same.seqT sm ha, atI_nat (j := 1) rfl, _, _, _, _, rfl, rfl, Same.seqT sm hss, atI_nat (j := 0) rfl, rfl, _, rfl, ite2 (fun hb => ?_) (fun hb => ?_)⟩
        · obtain ⟨pt, s, fo⟩ := r
          obtain ⟨mm, rfl⟩ := word_mark (str_inj (of_decide_eq_true hb))
          obtain ⟨v1, r1, rfl, d1, hxs⟩ := dpa_cons hxs
          rw [dp_str d1] at hss
          rw [marksR_mark] at er
          refine ⟨_, rfl, _, _, _, _, rfl, rfl, Same.seqT sm ha, atI_nat (j := 1) rfl, _, _, _, _, rfl, rfl, Same.seqT sm hss, atI_nat (j := 1) rfl, _, rfl, _, _, _, _, rfl, rfl, Same.seqT sm ha, atI_nat (j := 0) rfl, szc 2, fun T nT => ⟨zs, same_new nT _ _ eD, szl (by omega), ?_⟩⟩
          have sT := same_new nT (o := HO.tup [V.str mm, natV pt])
          refine ⟨Same.mut (sm.trans sT) nD, acc ++ [(mm, pt)], zs ++ [.ref T], upd_same, ?_, by rw [List.length_append]; exact Nat.succ_le_succ hac, ?_⟩
          · rw [List.map_append]
            exact dpAll_mono hv_upd (dpa_app (dpAll_mono (hv_to sT) dz) (.cons (.tup (st ((hv_new sm eD nT).trans upd_same)) (.cons (.str _) (.cons (.int _) .nil))) .nil))
          · rw [List.append_assoc]
            exact er
        · have e2 := marksR_else (t := k.rows.drop (i + 1)) (dec_ne (Bool.eq_false_iff.mpr hb))
          rw [e2] at er
          exact ⟨sm, acc, zs, eD, dz, by omega, er⟩
      rintro H4 ⟨s4, acc, zs, eD, dz, hac, er⟩
      rw [List.drop_of_length_le (by omega)] at er
      obtain rfl : marksR k.rows = acc := er.trans (List.append_nil _)
      have dM : Dp K H4 (.ref D) (.list ((marksR k.rows).map markD)) := .lst (sq eD) (dpAll_mono (hv_same s4) dz)
      clear eD dz hac nD er
      have s14 := s13.trans s4
      dsimp only [gName]
      -- lines
      refine ⟨_, rfl, oa, rfl, ⟨_, s4.seq hoa⟩, fun D2 nD2 => lc_list (xs := rows) (fun i H' => Same H4 H' ∧ H' D2 = some (.lst (((k.rows.take i).map fun r => lin r.st).map V.str))) ⟨same_new nD2, upd_same⟩ (fun _ H' _ p => p.1.seq (s4.seq hoa)) ?_ ?_⟩
      · rintro i x H' hx ⟨sm, eD⟩
        obtain ⟨r, hri, ra, sv, rfl, ha, hs⟩ := lrows_at hor hx
        have hri' : k.rows[i]? = some r := hri
        have hil := (List.getElem?_eq_some_iff.mp hri').1
        refine ⟨rfl, _, rfl, _, _, _, _, rfl, rfl, Same.seqT (s4.trans sm) ha, atI_nat (j := 1) rfl, sv, r.st, rfl, dp_mono (s4.trans sm) hs, hln r (List.mem_of_getElem? hri'), fun H5 s5 => ⟨_, s5 _ _ eD, ?_, Same.mut (sm.trans s5) nD2, ?_⟩⟩
        · rw [List.length_map, List.length_map, List.length_take]
          exact szl (by omega)
        · rw [upd_same, take_snoc hri', List.map_append, List.map_append]
          rfl
      rintro H5 ⟨s5, eD2⟩
      rw [List.take_of_length_le (by omega), ← hls] at eD2
      have s15 := s14.trans s5
      have dM5 := dp_mono s5 dM
      have dL5 : Dp K H5 (.ref D2) (strsD ls) := .lst (sq eD2) (dpa_strs ls)
      clear eD2 nD2 dM
      dsimp only [gName]
      -- actual, told
      refine ⟨_, rfl, H1, .ref xa, k, rfl, s15, dx, kfit, fun H6 t6 zs6 s6 n6 e6 dz6 => ?_⟩
      have s16 := s15.trans s6
      have zl6 := dpa_len dz6
      rw [List.length_map] at zl6
      dsimp only [gName]
      refine ⟨_, rfl, H1, .ref xa, k, rfl, s16, dx, kfit, hln, fun H7 t7 s7 n7 e7 => ?_⟩
      rw [← hls] at e7
      have s17 := s16.trans s7
      have dA : Dp K H7 (.ref t6) (.list ((marksR k.rows).map markD)) := .lst (sq (s7 _ _ e6)) (dpAll_mono ((hv_same s16).trans s7) dz6)
      have dT : Dp K H7 (.ref t7) (strsD ls) := .lst (sq e7) (dpa_strs ls)
      have u57 := s6.trans s7
      have dM7 := dp_mono u57 dM5
      have dL7 := dp_mono u57 dL5
      have e67 := s7 _ _ e6
      dsimp only [gName]
      refine orF ?t1 ?_
      case t1 => exact ans_not (ansIsi (T := "list") (b := true) (fun Q q => ⟨_, rfl, q⟩) (.base (.lst e67)) (by decide +kernel))
      refine ⟨_, rfl, _, rfl, _, _, dA, dM7, mshp, mshp, _, rfl, ?_⟩
      rw [nvF meqv]
      refine iteF ?_
      refine orG ?t1 ?_
      case t1 => exact ans_not (ansIsi (T := "list") (b := true) (fun Q q => ⟨_, rfl, q⟩) (.base (.lst e7)) (by decide +kernel))
      refine ⟨_, rfl, _, rfl, strsD ls, strsD ls, dT, dL7, lshp, lshp, _, rfl, ?_⟩
      rw [nvF leqv]
      refine iteF ?_
      -- again
      refine ⟨_, rfl, H1, .ref xa, k, rfl, s17, dx, kfit, fun H8 t8 zs8 s8 n8 e8 dz8 => ?_⟩
      have s18 := s17.trans s8
      refine ⟨_, rfl, H1, .ref xa, k, rfl, s18, dx, kfit, hln, fun H9 t9 s9 n9 e9 => ?_⟩
      rw [← hls] at e9
      have s19 := s18.trans s9
      refine ⟨szc 2, fun g ng => ?_⟩
      have sg := same_new ng (o := HO.lst [V.ref t8, V.ref t9])
      have eg : (upd H9 g (.lst [V.ref t8, V.ref t9])) g = some (.lst [V.ref t8, V.ref t9]) := upd_same
      generalize upd H9 g (.lst [V.ref t8, V.ref t9]) = HA at sg eg ⊢
      have s1A := s19.trans sg
      have u9A := sg
      have u8A := s9.trans sg
      have u7A := s8.trans u8A
      have eA6 := u7A _ _ e67
      have eA7 := u7A _ _ e7
      have n86 : t8 ≠ t6 := fun e => by rw [e, e67] at n8; cases n8
      have n87 : t8 ≠ t7 := fun e => by rw [e, e7] at n8; cases n8
      have n96 : t9 ≠ t6 := fun e => by rw [e, s8 _ _ e67] at n9; cases n9
      have n97 : t9 ≠ t7 := fun e => by rw [e, s8 _ _ e7] at n9; cases n9
      have ng6 : g ≠ t6 := fun e => by rw [e, s9 _ _ (s8 _ _ e67)] at ng; cases ng
      have ng7 : g ≠ t7 := fun e => by rw [e, s9 _ _ (s8 _ _ e7)] at ng; cases ng
      have n76 : t7 ≠ t6 := fun e => by rw [e, e6] at n7; cases n7
      dsimp only [gName]
      -- two appends
      refine ⟨_, rfl, .inl ⟨rfl, _, sq eA6⟩, t6, zs6, .non, rfl, rfl, eA6, szl (by omega), ?_⟩
      have eB7 : (upd HA t6 (.lst (zs6 ++ [.non]))) t7 = some (.lst (ls.map V.str)) := by rw [upd_ne n76]; exact eA7
      refine ⟨_, rfl, .inl ⟨rfl, _, sq eB7⟩, t7, ls.map V.str, .non, rfl, rfl, eB7, szl (by rw [List.length_map]; omega), ?_⟩
      have f6 : H5 t6 = none := n6
      have f7 : H5 t7 = none := s6.free n7
      have s5C : Same H5 (upd (upd HA t6 (.lst (zs6 ++ [.non]))) t7 (.lst (ls.map V.str ++ [.non]))) := Same.mut (Same.mut (u57.trans u7A) f6) f7
      have s1C : Same H1 (upd (upd HA t6 (.lst (zs6 ++ [.non]))) t7 (.lst (ls.map V.str ++ [.non]))) := s15.trans s5C
      have eC8 : (upd (upd HA t6 (.lst (zs6 ++ [.non]))) t7 (.lst (ls.map V.str ++ [.non]))) t8 = some (.lst zs8) := by rw [upd_ne n87, upd_ne n86]; exact u8A _ _ e8
      have eC9 : (upd (upd HA t6 (.lst (zs6 ++ [.non]))) t7 (.lst (ls.map V.str ++ [.non]))) t9 = some (.lst (ls.map V.str)) := by rw [upd_ne n97, upd_ne n96]; exact u9A _ _ e9
      have eCg : (upd (upd HA t6 (.lst (zs6 ++ [.non]))) t7 (.lst (ls.map V.str ++ [.non]))) g = some (.lst [V.ref t8, V.ref t9]) := by rw [upd_ne ng7, upd_ne ng6]; exact eg
      have v6 : (upd H7 t8 (.lst [])) t6 = some (.lst zs6) := by rw [upd_ne (Ne.symm n86)]; exact e67
      have v7 : (upd H7 t8 (.lst [])) t7 = some (.lst (ls.map V.str)) := by rw [upd_ne (Ne.symm n87)]; exact e7
      have dz8C : DpAll K (upd (upd HA t6 (.lst (zs6 ++ [.non]))) t7 (.lst (ls.map V.str ++ [.non]))) zs8 ((marksR k.rows).map markD) := dpAll_mono ((hv_to u8A).trans ((vw_upd v6).trans ((vw_upd v7).trans (vw_same s1C)))) dz8
      generalize upd (upd HA t6 (.lst (zs6 ++ [.non]))) t7 (.lst (ls.map V.str ++ [.non])) = HC at s5C s1C eC8 eC9 eCg dz8C ⊢
      have dMC := dp_mono s5C dM5
      have dLC := dp_mono s5C dL5
      -- the last test
      refine ⟨_, rfl, _, rfl, _, rfl, szc 2, fun g2 ng2 => ?_⟩
      have sg2 := same_new ng2 (o := HO.lst [V.ref D, V.ref D2])
      have eg2 : (upd HC g2 (.lst [V.ref D, V.ref D2])) g2 = some (.lst [V.ref D, V.ref D2]) := upd_same
      generalize upd HC g2 (.lst [V.ref D, V.ref D2]) = HD at sg2 eg2 ⊢
      have dMD := dp_mono sg2 dMC
      have dLD := dp_mono sg2 dLC
      have s1D := s1C.trans sg2
      refine ⟨.list [.list ((marksR k.rows).map markD), strsD ls], .list [.list ((marksR k.rows).map markD), strsD ls], .lst (sq (sg2 _ _ eCg)) (.cons (.lst (sq (sg2 _ _ eC8)) (dpAll_mono sg2 dz8C)) (.cons (.lst (sq (sg2 _ _ eC9)) (dpa_strs ls)) .nil)), .lst (sq eg2) (.cons dMD (.cons dLD .nil)), bshp, bshp, _, rfl, ?_⟩
      rw [nvF beqv]
      refine iteF ?_
      refine ⟨_, rfl, H1, .ref xa, k, rfl, s1D, dx, kfit, fun HE tE zsE sE nE eE dzE => ?_⟩
      have s1E := s1D.trans sE
      refine ⟨_, rfl, _, _, .lst (sq eE) (dpAll_mono (hv_same s1E) dzE), dp_mono sE dMD, mshp, mshp, _, rfl, ?_⟩
      rw [nvF meqv]
      refine iteF ?_
      refine ⟨_, rfl, H1, .ref xa, k, rfl, s1E, dx, kfit, hln, fun HF tF sF nF eF => ?_⟩
      rw [← hls] at eF
      refine ⟨_, rfl, strsD ls, strsD ls, .lst (sq eF) (dpa_strs ls), dp_mono (sE.trans sF) dLD, lshp, lshp, _, rfl, ?_⟩
      rw [nvF leqv]
      refine iteF ?_
      have s1F := s1E.trans sF
      refine ⟨_, rfl, xa, k.data, rfl, dp_mono s1F dx, kshw.sh, kshw.nd, kshw.de, kshw.ln, _, rfl, rfl, _, rfl, ?_⟩
      rw [neF]
      refine iteF ?_
      exact ⟨_, _, _, _, _, _, _, _, _, rfl, s1F⟩
    · rintro σ' H' ⟨y3, y4, y5, y6, y7, y8, y9, y10, y11, rfl, sm'⟩
      exact ⟨_, _, _, _, _, _, _, _, _, _, _, rfl, sm1.trans sm'⟩
  · rintro σ' H' ⟨y1, y2, y3, y4, y5, y6, y7, y8, y9, y10, y11, rfl, sm⟩
    exact q _
end
theorem all_mk {l : PySem.W.OpenLaw} {w : World} {K : PySem.W.Frag} {h : Heap} {mg : Str → Option Value} {fa f1 f2 f3 f4 f5 f6 f7 f8 f9 f10 f11 f12 f13 f14 f15 f16 f17 f18 f19 f20 f21 f22 f23 f24 f25 f26 f27 f28 f29 f30 : Addr} (X : K.In h) (G : h.Ns mainGlobals mg) (hfa : mg "law" = some (.ref fa))
    {od1 an1 od2 an2 od3 an3 od4 an4 od5 an5 od6 an6 od7 an7 od8 an8 od9 an9 od10 an10 od11 an11 od12 an12 od13 an13 od14 an14 od15 an15 od16 an16 od17 an17 od18 an18 od19 an19 od20 an20 od21 an21 od22 an22 od23 an23 od24 an24 od25 an25 od26 an26 od27 an27 od28 an28 od29 an29 od30 an30 : Option Addr} {sl1 sl2 sl3 sl4 sl5 sl6 sl7 sl8 sl9 sl10 sl11 sl12 sl13 sl14 sl15 sl16 sl17 sl18 sl19 sl20 sl21 sl22 sl23 sl24 sl25 sl26 sl27 sl28 sl29 sl30 : Array (Option Value)} {oc1 kV1 dc1 pm1 cd1 ct1 oc2 kV2 dc2 pm2 cd2 ct2 oc3 kV3 dc3 pm3 cd3 ct3 oc4 kV4 dc4 pm4 cd4 ct4 oc5 kV5 dc5 pm5 cd5 ct5 oc6 kV6 dc6 pm6 cd6 ct6 oc7 kV7 dc7 pm7 cd7 ct7 oc8 kV8 dc8 pm8 cd8 ct8 oc9 kV9 dc9 pm9 cd9 ct9 oc10 kV10 dc10 pm10 cd10 ct10 oc11 kV11 dc11 pm11 cd11 ct11 oc12 kV12 dc12 pm12 cd12 ct12 oc13 kV13 dc13 pm13 cd13 ct13 oc14 kV14 dc14 pm14 cd14 ct14 oc15 kV15 dc15 pm15 cd15 ct15 oc16 kV16 dc16 pm16 cd16 ct16 oc17 kV17 dc17 pm17 cd17 ct17 oc18 kV18 dc18 pm18 cd18 ct18 oc19 kV19 dc19 pm19 cd19 ct19 oc20 kV20 dc20 pm20 cd20 ct20 oc21 kV21 dc21 pm21 cd21 ct21 oc22 kV22 dc22 pm22 cd22 ct22 oc23 kV23 dc23 pm23 cd23 ct23 oc24 kV24 dc24 pm24 cd24 ct24 oc25 kV25 dc25 pm25 cd25 ct25 oc26 kV26 dc26 pm26 cd26 ct26 oc27 kV27 dc27 pm27 cd27 ct27 oc28 kV28 dc28 pm28 cd28 ct28 oc29 kV29 dc29 pm29 cd29 ct29 oc30 kV30 dc30 pm30 cd30 ct30 : Value}
    (a1 : PySem.W.nsIn K mainGlobals "bodies_of" = some (some (.ref f1))) (l1 : K.lookup f1 = some ⟨oc1, od1, .func (PySem.W.fnOf "bodies_of" "bodies_of" (defArgs s_bodies_of) (defBody s_bodies_of) (defScope s_bodies_of) .none kV1 dc1 pm1 an1 cd1 ct1), sl1⟩) (c1 : PySem.W.codeIn K cd1 "bodies_of" = true) (k1 : PySem.W.keepIn K (.ref f1) = true)
    (a2 : PySem.W.nsIn K mainGlobals "size_of" = some (some (.ref f2))) (l2 : K.lookup f2 = some ⟨oc2, od2, .func (PySem.W.fnOf "size_of" "size_of" (defArgs s_size_of) (defBody s_size_of) (defScope s_size_of) .none kV2 dc2 pm2 an2 cd2 ct2), sl2⟩) (c2 : PySem.W.codeIn K cd2 "size_of" = true) (k2 : PySem.W.keepIn K (.ref f2) = true)
    (a3 : PySem.W.nsIn K mainGlobals "statement_rows" = some (some (.ref f3))) (l3 : K.lookup f3 = some ⟨oc3, od3, .func (PySem.W.fnOf "statement_rows" "statement_rows" (defArgs s_statement_rows) (defBody s_statement_rows) (defScope s_statement_rows) .none kV3 dc3 pm3 an3 cd3 ct3), sl3⟩) (c3 : PySem.W.codeIn K cd3 "statement_rows" = true) (k3 : PySem.W.keepIn K (.ref f3) = true)
    (a4 : PySem.W.nsIn K mainGlobals "body_rows" = some (some (.ref f4))) (l4 : K.lookup f4 = some ⟨oc4, od4, .func (PySem.W.fnOf "body_rows" "body_rows" (defArgs s_body_rows) (defBody s_body_rows) (defScope s_body_rows) .none kV4 dc4 pm4 an4 cd4 ct4), sl4⟩) (c4 : PySem.W.codeIn K cd4 "body_rows" = true) (k4 : PySem.W.keepIn K (.ref f4) = true)
    (a5 : PySem.W.nsIn K mainGlobals "kind_rows" = some (some (.ref f5))) (l5 : K.lookup f5 = some ⟨oc5, od5, .func (PySem.W.fnOf "kind_rows" "kind_rows" (defArgs s_kind_rows) (defBody s_kind_rows) (defScope s_kind_rows) .none kV5 dc5 pm5 an5 cd5 ct5), sl5⟩) (c5 : PySem.W.codeIn K cd5 "kind_rows" = true) (k5 : PySem.W.keepIn K (.ref f5) = true)
    (a6 : PySem.W.nsIn K mainGlobals "phrase_of" = some (some (.ref f6))) (l6 : K.lookup f6 = some ⟨oc6, od6, .func (PySem.W.fnOf "phrase_of" "phrase_of" (defArgs s_phrase_of) (defBody s_phrase_of) (defScope s_phrase_of) .none kV6 dc6 pm6 an6 cd6 ct6), sl6⟩) (c6 : PySem.W.codeIn K cd6 "phrase_of" = true) (k6 : PySem.W.keepIn K (.ref f6) = true)
    (a7 : PySem.W.nsIn K mainGlobals "line_of" = some (some (.ref f7))) (l7 : K.lookup f7 = some ⟨oc7, od7, .func (PySem.W.fnOf "line_of" "line_of" (defArgs s_line_of) (defBody s_line_of) (defScope s_line_of) .none kV7 dc7 pm7 an7 cd7 ct7), sl7⟩) (c7 : PySem.W.codeIn K cd7 "line_of" = true) (k7 : PySem.W.keepIn K (.ref f7) = true)
    (a8 : PySem.W.nsIn K mainGlobals "marks_of" = some (some (.ref f8))) (l8 : K.lookup f8 = some ⟨oc8, od8, .func (PySem.W.fnOf "marks_of" "marks_of" (defArgs s_marks_of) (defBody s_marks_of) (defScope s_marks_of) .none kV8 dc8 pm8 an8 cd8 ct8), sl8⟩) (c8 : PySem.W.codeIn K cd8 "marks_of" = true) (k8 : PySem.W.keepIn K (.ref f8) = true)
    (a9 : PySem.W.nsIn K mainGlobals "lines_of" = some (some (.ref f9))) (l9 : K.lookup f9 = some ⟨oc9, od9, .func (PySem.W.fnOf "lines_of" "lines_of" (defArgs s_lines_of) (defBody s_lines_of) (defScope s_lines_of) .none kV9 dc9 pm9 an9 cd9 ct9), sl9⟩) (c9 : PySem.W.codeIn K cd9 "lines_of" = true) (k9 : PySem.W.keepIn K (.ref f9) = true)
    (a10 : PySem.W.nsIn K mainGlobals "_law_cell" = some (some (.ref f10))) (l10 : K.lookup f10 = some ⟨oc10, od10, .func (PySem.W.fnOf "_law_cell" "_law_cell" (defArgs s_law_cell) (defBody s_law_cell) (defScope s_law_cell) .none kV10 dc10 pm10 an10 cd10 ct10), sl10⟩) (c10 : PySem.W.codeIn K cd10 "_law_cell" = true) (k10 : PySem.W.keepIn K (.ref f10) = true)
    (a11 : PySem.W.nsIn K mainGlobals "_law_draws" = some (some (.ref f11))) (l11 : K.lookup f11 = some ⟨oc11, od11, .func (PySem.W.fnOf "_law_draws" "_law_draws" (defArgs s_law_draws) (defBody s_law_draws) (defScope s_law_draws) .none kV11 dc11 pm11 an11 cd11 ct11), sl11⟩) (c11 : PySem.W.codeIn K cd11 "_law_draws" = true) (k11 : PySem.W.keepIn K (.ref f11) = true)
    (a12 : PySem.W.nsIn K mainGlobals "_law_names" = some (some (.ref f12))) (l12 : K.lookup f12 = some ⟨oc12, od12, .func (PySem.W.fnOf "_law_names" "_law_names" (defArgs s_law_names) (defBody s_law_names) (defScope s_law_names) .none kV12 dc12 pm12 an12 cd12 ct12), sl12⟩) (c12 : PySem.W.codeIn K cd12 "_law_names" = true) (k12 : PySem.W.keepIn K (.ref f12) = true)
    (a13 : PySem.W.nsIn K mainGlobals "_law_value" = some (some (.ref f13))) (l13 : K.lookup f13 = some ⟨oc13, od13, .func (PySem.W.fnOf "_law_value" "_law_value" (defArgs s_law_value) (defBody s_law_value) (defScope s_law_value) .none kV13 dc13 pm13 an13 cd13 ct13), sl13⟩) (c13 : PySem.W.codeIn K cd13 "_law_value" = true) (k13 : PySem.W.keepIn K (.ref f13) = true)
    (a14 : PySem.W.nsIn K mainGlobals "_law_condition" = some (some (.ref f14))) (l14 : K.lookup f14 = some ⟨oc14, od14, .func (PySem.W.fnOf "_law_condition" "_law_condition" (defArgs s_law_condition) (defBody s_law_condition) (defScope s_law_condition) .none kV14 dc14 pm14 an14 cd14 ct14), sl14⟩) (c14 : PySem.W.codeIn K cd14 "_law_condition" = true) (k14 : PySem.W.keepIn K (.ref f14) = true)
    (a15 : PySem.W.nsIn K mainGlobals "_law_statement" = some (some (.ref f15))) (l15 : K.lookup f15 = some ⟨oc15, od15, .func (PySem.W.fnOf "_law_statement" "_law_statement" (defArgs s_law_statement) (defBody s_law_statement) (defScope s_law_statement) .none kV15 dc15 pm15 an15 cd15 ct15), sl15⟩) (c15 : PySem.W.codeIn K cd15 "_law_statement" = true) (k15 : PySem.W.keepIn K (.ref f15) = true)
    (a16 : PySem.W.nsIn K mainGlobals "_law_nested" = some (some (.ref f16))) (l16 : K.lookup f16 = some ⟨oc16, od16, .func (PySem.W.fnOf "_law_nested" "_law_nested" (defArgs s_law_nested) (defBody s_law_nested) (defScope s_law_nested) .none kV16 dc16 pm16 an16 cd16 ct16), sl16⟩) (c16 : PySem.W.codeIn K cd16 "_law_nested" = true) (k16 : PySem.W.keepIn K (.ref f16) = true)
    (a17 : PySem.W.nsIn K mainGlobals "_law_body" = some (some (.ref f17))) (l17 : K.lookup f17 = some ⟨oc17, od17, .func (PySem.W.fnOf "_law_body" "_law_body" (defArgs s_law_body) (defBody s_law_body) (defScope s_law_body) .none kV17 dc17 pm17 an17 cd17 ct17), sl17⟩) (c17 : PySem.W.codeIn K cd17 "_law_body" = true) (k17 : PySem.W.keepIn K (.ref f17) = true)
    (a18 : PySem.W.nsIn K mainGlobals "_law_parts" = some (some (.ref f18))) (l18 : K.lookup f18 = some ⟨oc18, od18, .func (PySem.W.fnOf "_law_parts" "_law_parts" (defArgs s_law_parts) (defBody s_law_parts) (defScope s_law_parts) .none kV18 dc18 pm18 an18 cd18 ct18), sl18⟩) (c18 : PySem.W.codeIn K cd18 "_law_parts" = true) (k18 : PySem.W.keepIn K (.ref f18) = true)
    (a19 : PySem.W.nsIn K mainGlobals "_law_total" = some (some (.ref f19))) (l19 : K.lookup f19 = some ⟨oc19, od19, .func (PySem.W.fnOf "_law_total" "_law_total" (defArgs s_law_total) (defBody s_law_total) (defScope s_law_total) .none kV19 dc19 pm19 an19 cd19 ct19), sl19⟩) (c19 : PySem.W.codeIn K cd19 "_law_total" = true) (k19 : PySem.W.keepIn K (.ref f19) = true)
    (a20 : PySem.W.nsIn K mainGlobals "_law_rests" = some (some (.ref f20))) (l20 : K.lookup f20 = some ⟨oc20, od20, .func (PySem.W.fnOf "_law_rests" "_law_rests" (defArgs s_law_rests) (defBody s_law_rests) (defScope s_law_rests) .none kV20 dc20 pm20 an20 cd20 ct20), sl20⟩) (c20 : PySem.W.codeIn K cd20 "_law_rests" = true) (k20 : PySem.W.keepIn K (.ref f20) = true)
    (a21 : PySem.W.nsIn K mainGlobals "_law_variable" = some (some (.ref f21))) (l21 : K.lookup f21 = some ⟨oc21, od21, .func (PySem.W.fnOf "_law_variable" "_law_variable" (defArgs s_law_variable) (defBody s_law_variable) (defScope s_law_variable) .none kV21 dc21 pm21 an21 cd21 ct21), sl21⟩) (c21 : PySem.W.codeIn K cd21 "_law_variable" = true) (k21 : PySem.W.keepIn K (.ref f21) = true)
    (a22 : PySem.W.nsIn K mainGlobals "_law_room" = some (some (.ref f22))) (l22 : K.lookup f22 = some ⟨oc22, od22, .func (PySem.W.fnOf "_law_room" "_law_room" (defArgs s_law_room) (defBody s_law_room) (defScope s_law_room) .none kV22 dc22 pm22 an22 cd22 ct22), sl22⟩) (c22 : PySem.W.codeIn K cd22 "_law_room" = true) (k22 : PySem.W.keepIn K (.ref f22) = true)
    (a23 : PySem.W.nsIn K mainGlobals "_law_kind" = some (some (.ref f23))) (l23 : K.lookup f23 = some ⟨oc23, od23, .func (PySem.W.fnOf "_law_kind" "_law_kind" (defArgs s_law_kind) (defBody s_law_kind) (defScope s_law_kind) .none kV23 dc23 pm23 an23 cd23 ct23), sl23⟩) (c23 : PySem.W.codeIn K cd23 "_law_kind" = true) (k23 : PySem.W.keepIn K (.ref f23) = true)
    (a24 : PySem.W.nsIn K mainGlobals "_law_shares" = some (some (.ref f24))) (l24 : K.lookup f24 = some ⟨oc24, od24, .func (PySem.W.fnOf "_law_shares" "_law_shares" (defArgs s_law_shares) (defBody s_law_shares) (defScope s_law_shares) .none kV24 dc24 pm24 an24 cd24 ct24), sl24⟩) (c24 : PySem.W.codeIn K cd24 "_law_shares" = true) (k24 : PySem.W.keepIn K (.ref f24) = true)
    (a25 : PySem.W.nsIn K mainGlobals "_law_program" = some (some (.ref f25))) (l25 : K.lookup f25 = some ⟨oc25, od25, .func (PySem.W.fnOf "_law_program" "_law_program" (defArgs s_law_program) (defBody s_law_program) (defScope s_law_program) .none kV25 dc25 pm25 an25 cd25 ct25), sl25⟩) (c25 : PySem.W.codeIn K cd25 "_law_program" = true) (k25 : PySem.W.keepIn K (.ref f25) = true)
    (a26 : PySem.W.nsIn K mainGlobals "_law_spread" = some (some (.ref f26))) (l26 : K.lookup f26 = some ⟨oc26, od26, .func (PySem.W.fnOf "_law_spread" "_law_spread" (defArgs s_law_spread) (defBody s_law_spread) (defScope s_law_spread) .none kV26 dc26 pm26 an26 cd26 ct26), sl26⟩) (c26 : PySem.W.codeIn K cd26 "_law_spread" = true) (k26 : PySem.W.keepIn K (.ref f26) = true)
    (a27 : PySem.W.nsIn K mainGlobals "_law_flow" = some (some (.ref f27))) (l27 : K.lookup f27 = some ⟨oc27, od27, .func (PySem.W.fnOf "_law_flow" "_law_flow" (defArgs s_law_flow) (defBody s_law_flow) (defScope s_law_flow) .none kV27 dc27 pm27 an27 cd27 ct27), sl27⟩) (c27 : PySem.W.codeIn K cd27 "_law_flow" = true) (k27 : PySem.W.keepIn K (.ref f27) = true)
    (a28 : PySem.W.nsIn K mainGlobals "_law_words" = some (some (.ref f28))) (l28 : K.lookup f28 = some ⟨oc28, od28, .func (PySem.W.fnOf "_law_words" "_law_words" (defArgs s_law_words) (defBody s_law_words) (defScope s_law_words) .none kV28 dc28 pm28 an28 cd28 ct28), sl28⟩) (c28 : PySem.W.codeIn K cd28 "_law_words" = true) (k28 : PySem.W.keepIn K (.ref f28) = true)
    (a29 : PySem.W.nsIn K mainGlobals "_law_line" = some (some (.ref f29))) (l29 : K.lookup f29 = some ⟨oc29, od29, .func (PySem.W.fnOf "_law_line" "_law_line" (defArgs s_law_line) (defBody s_law_line) (defScope s_law_line) .none kV29 dc29 pm29 an29 cd29 ct29), sl29⟩) (c29 : PySem.W.codeIn K cd29 "_law_line" = true) (k29 : PySem.W.keepIn K (.ref f29) = true)
    (a30 : PySem.W.nsIn K mainGlobals "law" = some (some (.ref f30))) (l30 : K.lookup f30 = some ⟨oc30, od30, .func (PySem.W.fnOf "law" "law" (defArgs s_law) (defBody s_law) (defScope s_law) .none kV30 dc30 pm30 an30 cd30 ct30), sl30⟩) (c30 : PySem.W.codeIn K cd30 "law" = true) (k30 : PySem.W.keepIn K (.ref f30) = true)
    (z_len : PySem.W.nsIn K mainGlobals "len" = some none) (z_int : PySem.W.nsIn K mainGlobals "int" = some none) (z_abs : PySem.W.nsIn K mainGlobals "abs" = some none) (z_range : PySem.W.nsIn K mainGlobals "range" = some none) (z_min : PySem.W.nsIn K mainGlobals "min" = some none) (z_str : PySem.W.nsIn K mainGlobals "str" = some none) (z_isinstance : PySem.W.nsIn K mainGlobals "isinstance" = some none) (z_bool : PySem.W.nsIn K mainGlobals "bool" = some none) (z_dict : PySem.W.nsIn K mainGlobals "dict" = some none) (z_sum : PySem.W.nsIn K mainGlobals "sum" = some none) (z_list : PySem.W.nsIn K mainGlobals "list" = some none) (z_tuple : PySem.W.nsIn K mainGlobals "tuple" = some none) (z_repr : PySem.W.nsIn K mainGlobals "repr" = some none) (z_sorted : PySem.W.nsIn K mainGlobals "sorted" = some none) (z_enumerate : PySem.W.nsIn K mainGlobals "enumerate" = some none) (z_zip : PySem.W.nsIn K mainGlobals "zip" = some none) (z_all : PySem.W.nsIn K mainGlobals "all" = some none) (z_max : PySem.W.nsIn K mainGlobals "max" = some none) (z_set : PySem.W.nsIn K mainGlobals "set" = some none) (z_ValueError : PySem.W.nsIn K mainGlobals "ValueError" = some none) :
    ∀ base : Heap, K.In base → base.Ns mainGlobals mg → TopOk l.prog w K mg base fa (spLaw K) := by
  have e := hfa.symm.trans (PySem.W.mg_of X G a30)
  cases e
  have F1 := fun_mk (st := s_bodies_of) l1 c1 k1
  have F2 := fun_mk (st := s_size_of) l2 c2 k2
  have F3 := fun_mk (st := s_statement_rows) l3 c3 k3
  have F4 := fun_mk (st := s_body_rows) l4 c4 k4
  have F5 := fun_mk (st := s_kind_rows) l5 c5 k5
  have F6 := fun_mk (st := s_phrase_of) l6 c6 k6
  have F7 := fun_mk (st := s_line_of) l7 c7 k7
  have F8 := fun_mk (st := s_marks_of) l8 c8 k8
  have F9 := fun_mk (st := s_lines_of) l9 c9 k9
  have F10 := fun_mk (st := s_law_cell) l10 c10 k10
  have F11 := fun_mk (st := s_law_draws) l11 c11 k11
  have F12 := fun_mk (st := s_law_names) l12 c12 k12
  have F13 := fun_mk (st := s_law_value) l13 c13 k13
  have F14 := fun_mk (st := s_law_condition) l14 c14 k14
  have F15 := fun_mk (st := s_law_statement) l15 c15 k15
  have F16 := fun_mk (st := s_law_nested) l16 c16 k16
  have F17 := fun_mk (st := s_law_body) l17 c17 k17
  have F18 := fun_mk (st := s_law_parts) l18 c18 k18
  have F19 := fun_mk (st := s_law_total) l19 c19 k19
  have F20 := fun_mk (st := s_law_rests) l20 c20 k20
  have F21 := fun_mk (st := s_law_variable) l21 c21 k21
  have F22 := fun_mk (st := s_law_room) l22 c22 k22
  have F23 := fun_mk (st := s_law_kind) l23 c23 k23
  have F24 := fun_mk (st := s_law_shares) l24 c24 k24
  have F25 := fun_mk (st := s_law_program) l25 c25 k25
  have F26 := fun_mk (st := s_law_spread) l26 c26 k26
  have F27 := fun_mk (st := s_law_flow) l27 c27 k27
  have F28 := fun_mk (st := s_law_words) l28 c28 k28
  have F29 := fun_mk (st := s_law_line) l29 c29 k29
  have F30 := fun_mk (st := s_law) l30 c30 k30
  have B : Bt mg := { len := PySem.W.mg_none_of X G z_len, int := PySem.W.mg_none_of X G z_int, abs := PySem.W.mg_none_of X G z_abs, range := PySem.W.mg_none_of X G z_range, min := PySem.W.mg_none_of X G z_min, str := PySem.W.mg_none_of X G z_str, isinstance := PySem.W.mg_none_of X G z_isinstance, bool := PySem.W.mg_none_of X G z_bool, dict := PySem.W.mg_none_of X G z_dict, sum := PySem.W.mg_none_of X G z_sum, list := PySem.W.mg_none_of X G z_list, tuple := PySem.W.mg_none_of X G z_tuple, repr := PySem.W.mg_none_of X G z_repr, sorted := PySem.W.mg_none_of X G z_sorted, enumerate := PySem.W.mg_none_of X G z_enumerate, zip := PySem.W.mg_none_of X G z_zip, all := PySem.W.mg_none_of X G z_all, max := PySem.W.mg_none_of X G z_max, set := PySem.W.mg_none_of X G z_set, ValueError := PySem.W.mg_none_of X G z_ValueError }
  intro base _ _
  have D_bodies_of := fd_bodies_of (P := l.prog) (w := w) (base := base) F1 (PySem.W.mg_of X G a1) B
  have D_size_of := fd_size_of (P := l.prog) (w := w) (base := base) F2 (PySem.W.mg_of X G a2) B D_bodies_of 12
  have D_body_rows := all_rows (P := l.prog) (w := w) (base := base) F4 (PySem.W.mg_of X G a4) F3 (PySem.W.mg_of X G a3) B D_bodies_of D_size_of 12 (by decide)
  have D_kind_rows := fd_kind_rows (P := l.prog) (w := w) (base := base) F5 (PySem.W.mg_of X G a5) B D_size_of D_body_rows
  have D_phrase_of := fd_phrase_of (P := l.prog) (w := w) (base := base) F6 (PySem.W.mg_of X G a6) B 8
  have D_line_of := fd_line_of (P := l.prog) (w := w) (base := base) F7 (PySem.W.mg_of X G a7) D_phrase_of
  have D_marks_of := fd_marks_of (P := l.prog) (w := w) (base := base) F8 (PySem.W.mg_of X G a8) D_kind_rows
  have D_lines_of := fd_lines_of (P := l.prog) (w := w) (base := base) F9 (PySem.W.mg_of X G a9) D_kind_rows D_line_of
  have D_law_cell := fd_law_cell (P := l.prog) (w := w) (base := base) F10 (PySem.W.mg_of X G a10) B
  have D_law_draws := fd_law_draws (P := l.prog) (w := w) (base := base) F11 (PySem.W.mg_of X G a11) B
  have D_law_names := fd_law_names (P := l.prog) (w := w) (base := base) F12 (PySem.W.mg_of X G a12) B D_law_draws
  have D_law_value := fd_law_value (P := l.prog) (w := w) (base := base) F13 (PySem.W.mg_of X G a13) B D_law_draws 3
  have D_law_condition := fd_law_condition (P := l.prog) (w := w) (base := base) F14 (PySem.W.mg_of X G a14) D_law_draws (fd_law_value F13 (PySem.W.mg_of X G a13) B D_law_draws 2) 3
  have D_law_body := all_body (P := l.prog) (w := w) (base := base) F17 (PySem.W.mg_of X G a17) F15 (PySem.W.mg_of X G a15) F16 (PySem.W.mg_of X G a16) B D_law_draws D_law_value D_law_condition 21
  have D_law_parts := fd_law_parts (P := l.prog) (w := w) (base := base) F18 (PySem.W.mg_of X G a18) 
  have D_law_total := fd_law_total (P := l.prog) (w := w) (base := base) F19 (PySem.W.mg_of X G a19) B D_law_parts 12
  have D_law_rests := fd_law_rests (P := l.prog) (w := w) (base := base) F20 (PySem.W.mg_of X G a20) B D_law_parts 12
  have D_law_variable := fd_law_variable (P := l.prog) (w := w) (base := base) F21 (PySem.W.mg_of X G a21) B
  have D_law_room := fd_law_room (P := l.prog) (w := w) (base := base) F22 (PySem.W.mg_of X G a22) B D_law_total D_law_rests
  have D_law_kind := fd_law_kind (P := l.prog) (w := w) (base := base) F23 (PySem.W.mg_of X G a23) B D_law_draws D_law_variable D_law_body
  have D_law_shares := fd_law_shares (P := l.prog) (w := w) (base := base) F24 (PySem.W.mg_of X G a24) B D_law_draws D_law_variable
  have D_law_program := fd_law_program (P := l.prog) (w := w) (base := base) F25 (PySem.W.mg_of X G a25) B D_law_draws D_law_names D_law_shares D_law_kind D_law_room
  have D_law_spread := fd_law_spread (P := l.prog) (w := w) (base := base) F26 (PySem.W.mg_of X G a26) B (fd_law_partsV F18 (PySem.W.mg_of X G a18)) D_law_total 12 (by decide)
  have D_law_flow := fd_law_flow (P := l.prog) (w := w) (base := base) F27 (PySem.W.mg_of X G a27) B D_law_total D_law_spread
  have D_law_words := fd_law_words (P := l.prog) (w := w) (base := base) F28 (PySem.W.mg_of X G a28) B 8
  have D_law_line := fd_law_line (P := l.prog) (w := w) (base := base) F29 (PySem.W.mg_of X G a29) D_law_words
  exact fd_law F30 (PySem.W.mg_of X G a30) (fun s v => .of_eq rfl) B D_law_cell D_law_program D_law_flow D_law_line D_marks_of D_lines_of
end My
open PySem PySem.W PyProof.Rows
set_option maxRecDepth 100000 in
set_option maxHeartbeats 0 in
theorem PySem.Challenge.cw_legion_k12_marks_and_lines_holds : PySem.Challenge.rw_legion_k12_marks_and_lines.Holds := by
  w_on; o_law; k_head; (case hw => w_witness2)
  k_fill
  refine My.walk_top (l := PySem.Challenge.rw_legion_k12_marks_and_lines) (n := 63) (sp := fun w => My.spLaw _) rfl (by decide) rfl (fun w h Y => PySem.W.kIn_of Y) ?F (fun _ _ a ns hl hS => ⟨a, ns, rfl, hS, hl, fun _ => rfl⟩)
  case F =>
    intro w mg fa h KX G hmg
    refine' My.all_mk KX G hmg ?a1 ?l1 ?c1 ?k1 ?a2 ?l2 ?c2 ?k2 ?a3 ?l3 ?c3 ?k3 ?a4 ?l4 ?c4 ?k4 ?a5 ?l5 ?c5 ?k5 ?a6 ?l6 ?c6 ?k6 ?a7 ?l7 ?c7 ?k7 ?a8 ?l8 ?c8 ?k8 ?a9 ?l9 ?c9 ?k9 ?a10 ?l10 ?c10 ?k10 ?a11 ?l11 ?c11 ?k11 ?a12 ?l12 ?c12 ?k12 ?a13 ?l13 ?c13 ?k13 ?a14 ?l14 ?c14 ?k14 ?a15 ?l15 ?c15 ?k15 ?a16 ?l16 ?c16 ?k16 ?a17 ?l17 ?c17 ?k17 ?a18 ?l18 ?c18 ?k18 ?a19 ?l19 ?c19 ?k19 ?a20 ?l20 ?c20 ?k20 ?a21 ?l21 ?c21 ?k21 ?a22 ?l22 ?c22 ?k22 ?a23 ?l23 ?c23 ?k23 ?a24 ?l24 ?c24 ?k24 ?a25 ?l25 ?c25 ?k25 ?a26 ?l26 ?c26 ?k26 ?a27 ?l27 ?c27 ?k27 ?a28 ?l28 ?c28 ?k28 ?a29 ?l29 ?c29 ?k29 ?a30 ?l30 ?c30 ?k30  ?z_len ?z_int ?z_abs ?z_range ?z_min ?z_str ?z_isinstance ?z_bool ?z_dict ?z_sum ?z_list ?z_tuple ?z_repr ?z_sorted ?z_enumerate ?z_zip ?z_all ?z_max ?z_set ?z_ValueError
    (case a1 => k_is); (case l1 => k_is); (case c1 => k_is); (case k1 => k_is)
    (case a2 => k_is); (case l2 => k_is); (case c2 => k_is); (case k2 => k_is)
    (case a3 => k_is); (case l3 => k_is); (case c3 => k_is); (case k3 => k_is)
    (case a4 => k_is); (case l4 => k_is); (case c4 => k_is); (case k4 => k_is)
    (case a5 => k_is); (case l5 => k_is); (case c5 => k_is); (case k5 => k_is)
    (case a6 => k_is); (case l6 => k_is); (case c6 => k_is); (case k6 => k_is)
    (case a7 => k_is); (case l7 => k_is); (case c7 => k_is); (case k7 => k_is)
    (case a8 => k_is); (case l8 => k_is); (case c8 => k_is); (case k8 => k_is)
    (case a9 => k_is); (case l9 => k_is); (case c9 => k_is); (case k9 => k_is)
    (case a10 => k_is); (case l10 => k_is); (case c10 => k_is); (case k10 => k_is)
    (case a11 => k_is); (case l11 => k_is); (case c11 => k_is); (case k11 => k_is)
    (case a12 => k_is); (case l12 => k_is); (case c12 => k_is); (case k12 => k_is)
    (case a13 => k_is); (case l13 => k_is); (case c13 => k_is); (case k13 => k_is)
    (case a14 => k_is); (case l14 => k_is); (case c14 => k_is); (case k14 => k_is)
    (case a15 => k_is); (case l15 => k_is); (case c15 => k_is); (case k15 => k_is)
    (case a16 => k_is); (case l16 => k_is); (case c16 => k_is); (case k16 => k_is)
    (case a17 => k_is); (case l17 => k_is); (case c17 => k_is); (case k17 => k_is)
    (case a18 => k_is); (case l18 => k_is); (case c18 => k_is); (case k18 => k_is)
    (case a19 => k_is); (case l19 => k_is); (case c19 => k_is); (case k19 => k_is)
    (case a20 => k_is); (case l20 => k_is); (case c20 => k_is); (case k20 => k_is)
    (case a21 => k_is); (case l21 => k_is); (case c21 => k_is); (case k21 => k_is)
    (case a22 => k_is); (case l22 => k_is); (case c22 => k_is); (case k22 => k_is)
    (case a23 => k_is); (case l23 => k_is); (case c23 => k_is); (case k23 => k_is)
    (case a24 => k_is); (case l24 => k_is); (case c24 => k_is); (case k24 => k_is)
    (case a25 => k_is); (case l25 => k_is); (case c25 => k_is); (case k25 => k_is)
    (case a26 => k_is); (case l26 => k_is); (case c26 => k_is); (case k26 => k_is)
    (case a27 => k_is); (case l27 => k_is); (case c27 => k_is); (case k27 => k_is)
    (case a28 => k_is); (case l28 => k_is); (case c28 => k_is); (case k28 => k_is)
    (case a29 => k_is); (case l29 => k_is); (case c29 => k_is); (case k29 => k_is)
    (case a30 => k_is); (case l30 => k_is); (case c30 => k_is); (case k30 => k_is)
    (case z_len => k_is); (case z_int => k_is); (case z_abs => k_is); (case z_range => k_is); (case z_min => k_is); (case z_str => k_is); (case z_isinstance => k_is); (case z_bool => k_is); (case z_dict => k_is); (case z_sum => k_is); (case z_list => k_is); (case z_tuple => k_is); (case z_repr => k_is); (case z_sorted => k_is); (case z_enumerate => k_is); (case z_zip => k_is); (case z_all => k_is); (case z_max => k_is); (case z_set => k_is); (case z_ValueError => k_is)
